
/-
  ReportClones' walk.
-/
import Derived.Test.YtichccjnbllhnabRepFour
namespace Go.Proofs.Ytichccjnbllhnab
open Go.RowKit
set_option linter.unusedVariables false
attribute [local go_sem] Oper.semAt_some
set_option maxRecDepth 100000 in
set_option maxHeartbeats 600000 in
theorem walk_ReportClones (a : Option Addr) (len cap : Nat) (q t n : Nat → Int) (a' : Option Addr) (len' cap' : Nat) (zs : List Int) (sw : Int) (w : World)
    (hr : StructsIn w a len cap [(.u16, q), (.u32, t), (.i64, n)]) (hm : IntRow .u16 w a' len' cap' zs) :
    Calls Try.prog 7 #[.slice a len cap, .slice a' len' cap', .int .i64 sw] w (TrueBelow w) := by
  obtain ⟨b, off, hlen, ha, hc⟩ := hr.open
  obtain ⟨b', off', hlen', ha', hc'⟩ := hm.open
  by_cases h1 : 60 < len
  · have h1' : (60 : Int) < (len : Int) := by omega
    clear hc ha hr hm hc' ha'
    go_enter Try.func7, Try.ntmps7
    go_wp2_with (go_at_call 17; refine (alive8_any _).mono ?_; rintro e w1 ⟨rfl, hB⟩)
    go_ret
    exact ⟨rfl, hB⟩
  have h1' : ¬ (60 : Int) < (len : Int) := by omega
  by_cases h2 : 60 < len'
  · have h2' : (60 : Int) < (len' : Int) := by omega
    clear hc ha hr hm hc' ha'
    go_enter Try.func7, Try.ntmps7
    go_wp2_with (go_at_call 17; refine (alive8_any _).mono ?_; rintro e w1 ⟨rfl, hB⟩)
    go_ret
    exact ⟨rfl, hB⟩
  have h2' : ¬ (60 : Int) < (len' : Int) := by omega
  by_cases h3 : len' < 2
  · have h3' : (len' : Int) < 2 := by omega
    clear hc ha hr hm hc' ha'
    go_enter Try.func7, Try.ntmps7
    go_wp2_with (go_at_call 17; refine (alive8_any _).mono ?_; rintro e w1 ⟨rfl, hB⟩)
    go_ret
    exact ⟨rfl, hB⟩
  have h3' : ¬ (len' : Int) < 2 := by omega
  have hOk := Os.ok q t n len (fun i hi => (hc i hi).2.2.2.2.1) (by omega)
  have HOK := Lib.hid hOk; clear hOk
  have HC := Lib.hid hc; clear hc
  have HA := Lib.hid ha; clear ha hr
  have HC' := Lib.hid hc'; clear hc'
  have HA' := Lib.hid ha'; clear ha' hm
  go_enter Try.func7, Try.ntmps7
  go_wp2_with fail
  refine (alive8_any _).mono ?_
  rintro e w1 ⟨rfl, hB⟩
  have K1 := Lib.hid (Kp.new hB); clear hB
  go_wp2
  go_loopw [36] (fun i wr => ∃ k : Nat, k ≤ len ∧ i = .int .i64 k ∧ Hid (Kp w w1.heap.size (Os.st q t n k) wr)) (fun i _ => len - (intOf i).toNat)
  case atStart => exact ⟨0, Nat.zero_le _, rfl, K1⟩
  case round =>
    clear K1
    obtain ⟨k, hk, rfl, HK⟩ := hrel
    by_cases hlt : k < len
    · obtain ⟨hb, hc0, hc1, hc2, hq, ht, hn⟩ := HC.out k hlt
      have c0 : wr.cell? ⟨b, off + k * 3, none⟩ = some (.int .u16 (q k)) := (HK.out.bel.cell (p := ⟨b, off + k * 3, none⟩) hb).trans hc0
      have c1 : wr.cell? ⟨b, off + k * 3 + 1, none⟩ = some (.int .u32 (t k)) := (HK.out.bel.cell (p := ⟨b, off + k * 3 + 1, none⟩) hb).trans hc1
      have c2 : wr.cell? ⟨b, off + k * 3 + 2, none⟩ = some (.int .i64 (n k)) := (HK.out.bel.cell (p := ⟨b, off + k * 3 + 2, none⟩) hb).trans hc2
      obtain rfl := HA.out (by omega)
      have HN : Hid (∀ o, Calls Try.prog 20 #[.pointer (some ⟨w1.heap.size, 0, none⟩), .int .u16 (q k), .int .u32 (t k), .int .i64 (n k)] (wr.alloc o) fun z W' => z = .returned (.tuple #[]) ∧ Kp w w1.heap.size (Os.st q t n (k + 1)) W') := Lib.hid fun o =>
        note_kp (q k) (t k) (n k) (HK.out.new2 (gb_alloc _ _ _)) (HOK.out k hk) (by rw [Os.r]; omega) hq.1 hq.2 rfl
      clear hc0 hc1 hc2
      generalize q k = qk at *
      generalize t k = tk at *
      generalize n k = nk at *
      go_wp2_with fail
      refine (HN.out _).mono ?_
      rintro e w3 ⟨rfl, h3⟩
      have K3 := Lib.hid h3; clear h3 HN HK
      go_wp2
      go_roundw
      case rel => exact ⟨k + 1, by omega, by go_num, K3⟩
      case measure => simp [intOf]; omega
    · obtain rfl : k = len := by omega
      have ok0 := HOK.out k hk
      have r0 := Os.r q t n k
      have HK' := HK
      generalize Os.st q t n k = x0 at *
      have ok1 := ok0.note 100 0 0 (by omega) (by omega) (by omega)
      have r1 : (x0.note 100 0 0).r = k + 1 := by rw [Rs.note_r, r0]
      have HN := Lib.hid (note_kp 100 0 0 HK.out ok0 (by omega) (by omega) (by omega) rfl)
      generalize x0.note 100 0 0 = x1 at *
      clear HK HK' HOK
      go_wp2_with fail
      refine HN.out.mono ?_
      rintro e w3 ⟨rfl, h3⟩
      have K3 := Lib.hid h3; clear h3 HN
      go_wp2_with fail
      refine (clone_ok _ _ _ K3.out.hold).mono ?_
      rintro e w4 ⟨rfl, h4, g4⟩
      have K4 := Lib.hid (K3.out.new2 g4)
      have C4 : Hid (Kp w w3.heap.size x1 w4) := Lib.hid ⟨h4, K4.out.bel, K3.out.bel.size⟩
      have hlt4 : w1.heap.size < w3.heap.size := K3.out.hold.lt
      have hle4 : w.heap.size ≤ w1.heap.size := K3.out.le
      clear h4 g4 K3
      have HP := Lib.hid (report_ok _ _ 3 w4 K4.out.hold ok1)
      have HP2 : Hid (∀ W, Kp w w3.heap.size x1 W → Calls Try.prog 18 #[.pointer (some ⟨w3.heap.size, 0, none⟩), .int .u32 3] W (HPost w3.heap.size x1.told (.agg #[.int .u32 3, .int .i64 x1.frac, .int .i32 x1.lost, .int .u32 (x1.h % 4294967296), .int .u32 (Rep.jit x1.s), .int .u32 0, .int .u32 0]) W)) := Lib.hid fun W hW => report_ok _ _ 3 W hW.hold ok1
      have rT : x1.told.r = k + 1 := r1
      have okT := ok1.told
      generalize x1.frac = Fr at *
      generalize x1.lost = Lo at *
      generalize x1.h % 4294967296 = Hi at *
      generalize Rep.jit x1.s = Ji at *
      go_wp2_with fail
      refine HP.out.mono ?_
      rintro e w5 ⟨rfl, h5, g5⟩
      have K5 := Lib.hid (K4.out.grown h5 g5)
      have C5 := Lib.hid (C4.out.other g5 hle4 (by omega))
      clear h5 g5 HP K4 C4
      go_wp2_with fail
      generalize hw6 : w5.alloc (.cells #[.int .u32 3, .int .i64 Fr, .int .i32 Lo, .int .u32 Hi, .int .u32 Ji, .int .u32 0, .int .u32 0] 37) = w6
      have K6 : Hid (Kp w w1.heap.size x1.told w6) := Lib.hid (hw6 ▸ K5.out.new2 (gb_alloc _ _ _))
      have C6 : Hid (Kp w w3.heap.size x1 w6) := Lib.hid (hw6 ▸ C5.out.new2 (gb_alloc _ _ _))
      have hrow : w6.heap[w5.heap.size]? = some (.cells #[.int .u32 3, .int .i64 Fr, .int .i32 Lo, .int .u32 Hi, .int .u32 Ji, .int .u32 0, .int .u32 0] 37 (0, 0)) := hw6 ▸ heap_new _ _
      have hlt6 : w3.heap.size < w5.heap.size := C5.out.hold.lt
      clear hw6 K5 C5
      have hneq := fun W => rneq_same 3 Fr Lo Hi Ji W
      have HS : Hid (∀ W, w6.grownBy W (some w3.heap.size) → ((W.cell? ⟨w5.heap.size, 0, none⟩ = some (.int .u32 3) ∧ W.cell? ⟨w5.heap.size, 1, none⟩ = some (.int .i64 Fr) ∧ W.cell? ⟨w5.heap.size, 2, none⟩ = some (.int .i32 Lo) ∧ W.cell? ⟨w5.heap.size, 3, none⟩ = some (.int .u32 Hi) ∧ W.cell? ⟨w5.heap.size, 4, none⟩ = some (.int .u32 Ji) ∧ W.cell? ⟨w5.heap.size, 5, none⟩ = some (.int .u32 0) ∧ W.cell? ⟨w5.heap.size, 6, none⟩ = some (.int .u32 0)))) := Lib.hid fun W hW => by
        have hr := (hW.block w5.heap.size (Array.getElem?_eq_some_iff.1 hrow).1 (by intro h; injection h with h; omega)).trans hrow
        refine ⟨?_, ?_, ?_, ?_, ?_, ?_, ?_⟩ <;> (rw [cell_of_row W _ _ _ _ _ hr]; rfl)
      obtain ⟨r0, r1', r2, r3, r4, r5, r6⟩ := HS.out w6 (grownBy_drewN _ 0 _)
      have HHR := Lib.hid hrow; clear hrow
      go_region_held3 (fun W => W.cell? ⟨w5.heap.size, 0, none⟩ = some (.int .u32 3) ∧ W.cell? ⟨w5.heap.size, 1, none⟩ = some (.int .i64 Fr) ∧ W.cell? ⟨w5.heap.size, 2, none⟩ = some (.int .i32 Lo) ∧ W.cell? ⟨w5.heap.size, 3, none⟩ = some (.int .u32 Hi) ∧ W.cell? ⟨w5.heap.size, 4, none⟩ = some (.int .u32 Ji) ∧ W.cell? ⟨w5.heap.size, 5, none⟩ = some (.int .u32 0) ∧ W.cell? ⟨w5.heap.size, 6, none⟩ = some (.int .u32 0))
        (first | with_reducible assumption | exact HS.out w6.drew (grownBy_drewN w6 1 _) | exact HS.out w7 (gb_trans (grownBy_drewN w6 1 _) g7))
        (first | (go_at_call 18; refine (HP2.out _ (C6.out.drawn 1)).mono ?_; rintro e w7 ⟨rfl, h7, g7⟩))
      all_goals (
        have C7 := Lib.hid ((C6.out.drawn 1).grown h7 g7)
        have K7 := Lib.hid ((K6.out.drawn 1).other g7 (by omega) (by omega))
        clear h7 g7 K6 C6 HP2 HS HHR r0 r1' r2 r3 r4 r5 r6
        obtain ⟨κ, hκ⟩ : ∃ κ : Nat, (κ : Int) = (sw % 64).tmod ((len' : Int) - 1) := ⟨((sw % 64).tmod ((len' : Int) - 1)).toNat, by
          have := Int.tmod_nonneg ((len' : Int) - 1) (show 0 ≤ sw % 64 by omega); omega⟩
        have hκ1 : κ + 1 < len' := by
          have := Int.tmod_lt_of_pos (sw % 64) (show 0 < (len' : Int) - 1 by omega); omega
        have hand := and63 sw
        have hκ2 : (sw % 64).tmod ((len' : Int) - 1) = κ := hκ.symm
        have hkw : IntKind.i64.wrap (κ : Int) = κ := i64w_in _ (by omega) (by omega)
        have hd0 : ((len' : Int) - 1 == 0) = false := by rw [beq_eq_false_iff_ne]; omega
        have hd1 : ¬ ((len' : Int) - 1) = 0 := by omega
        have hd2 : IntKind.i64.wrap ((len' : Int) - 1) = (len' : Int) - 1 := i64w_in _ (by omega) (by omega)
        clear hκ
        have F0 := Lib.hid (Fo.new K7.out C7.out (by omega))
        have hOk2 := Lib.hid (Sm.ok x1.told zs len' okT (by omega) (by omega) (fun i hi => wf_u16 (HC'.out i hi).2.2))
        clear K7 C7
        go_wp2_with fail
        generalize hw8 : ((w7.alloc (.cells #[.int .i64 0, .int .i64 0, .int .i64 0, .int .i64 0, .int .u32 0, .int .i64 0, .int .i64 0, .int .i64 0] 54)).alloc (.cells #[.int .i64 0, .int .i64 0, .int .i64 0, .int .i64 0, .int .u32 0, .int .i64 0, .int .i64 0, .int .i64 0] 54)) = w8 at F0 ⊢
        clear hw8
        refine (F0.out.noteA 1000 0 0 Rs.zero_ok (by decide) (by decide) (by decide) Cl.first).mono ?_
        rintro e w9 ⟨rfl, h9⟩
        have F9 := Lib.hid h9; clear h9 F0
        go_wp2_with fail
        refine (F9.out.noteB 1000 0 0 Rs.zero_ok (by decide) (by decide) (by decide) Cl.first).mono ?_
        rintro e w10 ⟨rfl, h10⟩
        have F10 := Lib.hid h10; clear h10 F9
        go_wp2
        go_loopw [75] (fun i wr => ∃ m : Nat, m ≤ len' ∧ i = .int .i64 m ∧ Hid (Fo w w1.heap.size w3.heap.size w7.heap.size (w7.heap.size + 1) (Sm.st x1.told zs m) x1.told (Cl.st (Cl.top (Cl.g zs) m) (1 + m)) (Cl.st (Cl.top (fun i => Cl.g zs (Cl.turn κ i)) m) (1 + m)) wr)) (fun i _ => len' - (intOf i).toNat)
        case atStart => exact ⟨0, Nat.zero_le _, rfl, Lib.hid (by simpa [Sm.st, Cl.top] using F10.out)⟩
        case round =>
          clear F10
          obtain ⟨m, hm, rfl, HF⟩ := hrel
          have hOm := hOk2.out m hm
          have hrm := Sm.r x1.told zs m
          have tb1 := Cl.top_bd (Cl.g zs) (Cl.g_bd zs) m
          have tb2 := Cl.top_bd (fun i => Cl.g zs (Cl.turn κ i)) (fun i => Cl.g_bd zs _) m
          by_cases hlt2 : m < len'
          · obtain ⟨hb1, hz1, hw1⟩ := HC'.out m hlt2
            have hj := Cl.turn_lt κ len' m hκ1 hlt2
            obtain ⟨hb2, hz2, hw2⟩ := HC'.out (Cl.turn κ m) hj
            obtain rfl := HA'.out (by omega)
            have hw1 := wf_u16 hw1
            have hw2 := wf_u16 hw2
            have d1 : wr.cell? ⟨b', off' + m, none⟩ = some (.int .u16 (zs.getD m 0)) := (HF.out.ks.bel.cell (p := ⟨b', off' + m, none⟩) hb1).trans hz1
            have hT1 : Cl.top (Cl.g zs) (m + 1) = max (Cl.top (Cl.g zs) m) (1000 + zs.getD m 0 % 1024) := rfl
            have hT2 : Cl.top (fun i => Cl.g zs (Cl.turn κ i)) (m + 1) = max (Cl.top (fun i => Cl.g zs (Cl.turn κ i)) m) (1000 + zs.getD (Cl.turn κ m) 0 % 1024) := rfl
            have hSm : (Sm.st x1.told zs m).note (zs.getD m 0) 5 5 = Sm.st x1.told zs (m + 1) := rfl
            have hJ : Cl.turn κ m = if m = κ + 1 then κ else if m = κ then κ + 1 else m := rfl
            obtain ⟨T1', hE1⟩ : ∃ T, Cl.top (Cl.g zs) (m + 1) = T := ⟨_, rfl⟩
            obtain ⟨T2', hE2⟩ : ∃ T, Cl.top (fun i => Cl.g zs (Cl.turn κ i)) (m + 1) = T := ⟨_, rfl⟩
            obtain ⟨y', hE3⟩ : ∃ T, Sm.st x1.told zs (m + 1) = T := ⟨_, rfl⟩
            rw [hE1] at hT1
            rw [hE2] at hT2
            rw [hE3] at hSm
            have HE1 := Lib.hid hE1; have HE2 := Lib.hid hE2; have HE3 := Lib.hid hE3
            clear hE1 hE2 hE3
            generalize zs.getD (Cl.turn κ m) 0 = z2 at *
            generalize zs.getD m 0 = z1 at *
            generalize Cl.turn κ m = j at *
            generalize Cl.top (Cl.g zs) m = T1 at *
            generalize Cl.top (fun i => Cl.g zs (Cl.turn κ i)) m = T2 at *
            generalize Sm.st x1.told zs m = y at *
            have HZ2 := Lib.hid (show b' < w.heap.size ∧ w.cell? ⟨b', off' + j, none⟩ = some (.int .u16 z2) from ⟨hb2, hz2⟩)
            have HZ1 := Lib.hid (show b' < w.heap.size ∧ w.cell? ⟨b', off' + m, none⟩ = some (.int .u16 z1) from ⟨hb1, hz1⟩)
            have a1 := u16_and1023 z1
            have a2 := u16_and1023 z2
            have v1 : IntKind.u16.wrap (1000 + z1 % 1024) = 1000 + z1 % 1024 := by rw [u16w]; omega
            have v2 : IntKind.u16.wrap (1000 + z2 % 1024) = 1000 + z2 % 1024 := by rw [u16w]; omega
            obtain ⟨g1, hg1⟩ : ∃ g1, g1 = 1000 + z1 % 1024 := ⟨_, rfl⟩
            obtain ⟨g2, hg2⟩ : ∃ g2, g2 = 1000 + z2 % 1024 := ⟨_, rfl⟩
            rw [← hg1] at v1 hT1
            rw [← hg2] at v2 hT2
            have HNA : Hid (Calls Try.prog 20 #[.pointer (some ⟨w7.heap.size, 0, none⟩), .int .u16 (1000 + z1 % 1024), .int .u32 0, .int .i64 0] wr fun z W' => z = .returned (.tuple #[]) ∧ Fo w w1.heap.size w3.heap.size w7.heap.size (w7.heap.size + 1) y x1.told (Cl.st T1' (1 + m + 1)) (Cl.st T2 (1 + m)) W') := Lib.hid
              (by rw [← hg1]; exact HF.out.noteA g1 0 0 (Cl.ok _ _ tb1 (by omega) (by omega)) (by show (1 : Int) + m < 1000; omega) (by omega) (by omega) (by rw [hT1]; exact Cl.note _ _ _ tb1 (by omega) (by omega)))
            have HNB : Hid (∀ W, Fo w w1.heap.size w3.heap.size w7.heap.size (w7.heap.size + 1) y x1.told (Cl.st T1' (1 + m + 1)) (Cl.st T2 (1 + m)) W → Calls Try.prog 20 #[.pointer (some ⟨w7.heap.size + 1, 0, none⟩), .int .u16 (1000 + z2 % 1024), .int .u32 0, .int .i64 0] W fun z W' => z = .returned (.tuple #[]) ∧ Fo w w1.heap.size w3.heap.size w7.heap.size (w7.heap.size + 1) y x1.told (Cl.st T1' (1 + m + 1)) (Cl.st T2' (1 + m + 1)) W') := Lib.hid fun W hW =>
              (by rw [← hg2]; exact hW.noteB g2 0 0 (Cl.ok _ _ tb2 (by omega) (by omega)) (by show (1 : Int) + m < 1000; omega) (by omega) (by omega) (by rw [hT2]; exact Cl.note _ _ _ tb2 (by omega) (by omega)))
            have HNS : Hid (∀ W, Fo w w1.heap.size w3.heap.size w7.heap.size (w7.heap.size + 1) y x1.told (Cl.st T1' (1 + m + 1)) (Cl.st T2' (1 + m + 1)) W → Calls Try.prog 20 #[.pointer (some ⟨w1.heap.size, 0, none⟩), .int .u16 z1, .int .u32 5, .int .i64 5] W fun z W' => z = .returned (.tuple #[]) ∧ Fo w w1.heap.size w3.heap.size w7.heap.size (w7.heap.size + 1) y' x1.told (Cl.st T1' (1 + m + 1)) (Cl.st T2' (1 + m + 1)) W') := Lib.hid fun W hW =>
              (hW.noteS z1 5 5 hOm (by omega) hw1.1 hw1.2 hSm)
            have HG1 := Lib.hid hg1; have HG2 := Lib.hid hg2
            clear hz1 hz2 hb1 hb2 hT1 hT2 hSm hg1 hg2 tb1 tb2 hOm HF
            have hjl : j < len' := hj
            rcases (show (m = κ ∧ j = κ + 1) ∨ (m = κ + 1 ∧ j = κ) ∨ (m ≠ κ ∧ m ≠ κ + 1 ∧ j = m) by
              rw [hJ]; by_cases e1 : m = κ + 1
              · right; left; exact ⟨e1, if_pos e1⟩
              · by_cases e2 : m = κ
                · left; exact ⟨e2, by rw [if_neg e1, if_pos e2]⟩
                · right; right; exact ⟨e2, e1, by rw [if_neg e1, if_neg e2]⟩) with ⟨e1, e2⟩ | ⟨e1, e2⟩ | ⟨e1, e2, e3⟩
            · subst e1
              have p2 : ((m : Int) == (m : Int) + 1) = false := by rw [beq_eq_false_iff_ne]; omega
              have p3 : (m : Int) + 1 < (len' : Int) := by omega
              have HD2 : Hid (∀ W, Below w.heap.size w W → W.cell? ⟨b', off' + (m + 1), none⟩ = some (.int .u16 z2)) := Lib.hid fun W hW => by
                have := (hW.cell (p := ⟨b', off' + j, none⟩) HZ2.out.1).trans HZ2.out.2
                rwa [e2] at this
              have HD1 : Hid (∀ W, Below w.heap.size w W → W.cell? ⟨b', off' + m, none⟩ = some (.int .u16 z1)) := Lib.hid fun W hW => (hW.cell (p := ⟨b', off' + m, none⟩) HZ1.out.1).trans HZ1.out.2
              go_wp2_with fail
              refine HNA.out.mono ?_
              rintro e w11 ⟨rfl, h11⟩
              have F11 := Lib.hid h11; clear h11 HNA d1
              have d2 := HD2.out w11 F11.out.ks.bel
              go_wp2_with fail
              refine (HNB.out _ F11.out).mono ?_
              rintro e w12 ⟨rfl, h12⟩
              have F12 := Lib.hid h12; clear h12 HNB d2 F11
              have d1 := HD1.out w12 F12.out.ks.bel
              go_wp2_with fail
              refine (HNS.out _ F12.out).mono ?_
              rintro e w13 ⟨rfl, h13⟩
              have F13 := Lib.hid h13; clear h13 HNS d1 F12
              go_wp2
              go_roundw
              case rel => exact ⟨m + 1, by omega, by go_num, Lib.hid (by
                have := F13.out
                rw [HE1.out, HE2.out, HE3.out]
                rwa [show (1 : Int) + m + 1 = 1 + ((m + 1 : Nat) : Int) by omega] at this)⟩
              case measure => simp [intOf]; omega
            · subst e1
              have p1 : ((κ : Int) + 1 == (κ : Int)) = false := by rw [beq_eq_false_iff_ne]; omega
              have p3 : (κ : Int) < (len' : Int) := by omega
              have p4 : (κ : Int) + 1 < (len' : Int) := by omega
              have HD2 : Hid (∀ W, Below w.heap.size w W → W.cell? ⟨b', off' + κ, none⟩ = some (.int .u16 z2)) := Lib.hid fun W hW => by
                have := (hW.cell (p := ⟨b', off' + j, none⟩) HZ2.out.1).trans HZ2.out.2
                rwa [e2] at this
              have HD1 : Hid (∀ W, Below w.heap.size w W → W.cell? ⟨b', off' + (κ + 1), none⟩ = some (.int .u16 z1)) := Lib.hid fun W hW => (hW.cell (p := ⟨b', off' + (κ + 1), none⟩) HZ1.out.1).trans HZ1.out.2
              go_wp2_with fail
              refine HNA.out.mono ?_
              rintro e w11 ⟨rfl, h11⟩
              have F11 := Lib.hid h11; clear h11 HNA d1
              have d2 := HD2.out w11 F11.out.ks.bel
              go_wp2_with fail
              refine (HNB.out _ F11.out).mono ?_
              rintro e w12 ⟨rfl, h12⟩
              have F12 := Lib.hid h12; clear h12 HNB d2 F11
              have d1 := HD1.out w12 F12.out.ks.bel
              go_wp2_with fail
              refine (HNS.out _ F12.out).mono ?_
              rintro e w13 ⟨rfl, h13⟩
              have F13 := Lib.hid h13; clear h13 HNS d1 F12
              go_wp2
              go_roundw
              case rel => exact ⟨κ + 1 + 1, by omega, by go_num, Lib.hid (by
                have := F13.out
                rw [HE1.out, HE2.out, HE3.out]
                rwa [show (1 : Int) + ((κ + 1 : Nat) : Int) + 1 = 1 + ((κ + 1 + 1 : Nat) : Int) by omega] at this)⟩
              case measure => simp [intOf]; omega
            · have p1 : ((m : Int) == (κ : Int)) = false := by rw [beq_eq_false_iff_ne]; omega
              have p2 : ((m : Int) == (κ : Int) + 1) = false := by rw [beq_eq_false_iff_ne]; omega
              have HD2 : Hid (∀ W, Below w.heap.size w W → W.cell? ⟨b', off' + m, none⟩ = some (.int .u16 z2)) := Lib.hid fun W hW => by
                have := (hW.cell (p := ⟨b', off' + j, none⟩) HZ2.out.1).trans HZ2.out.2
                rwa [e3] at this
              have HD1 : Hid (∀ W, Below w.heap.size w W → W.cell? ⟨b', off' + m, none⟩ = some (.int .u16 z1)) := Lib.hid fun W hW => (hW.cell (p := ⟨b', off' + m, none⟩) HZ1.out.1).trans HZ1.out.2
              go_wp2_with fail
              refine HNA.out.mono ?_
              rintro e w11 ⟨rfl, h11⟩
              have F11 := Lib.hid h11; clear h11 HNA d1
              have d2 := HD2.out w11 F11.out.ks.bel
              go_wp2_with fail
              refine (HNB.out _ F11.out).mono ?_
              rintro e w12 ⟨rfl, h12⟩
              have F12 := Lib.hid h12; clear h12 HNB d2 F11
              have d1 := HD1.out w12 F12.out.ks.bel
              go_wp2_with fail
              refine (HNS.out _ F12.out).mono ?_
              rintro e w13 ⟨rfl, h13⟩
              have F13 := Lib.hid h13; clear h13 HNS d1 F12
              go_wp2
              go_roundw
              case rel => exact ⟨m + 1, by omega, by go_num, Lib.hid (by
                have := F13.out
                rw [HE1.out, HE2.out, HE3.out]
                rwa [show (1 : Int) + m + 1 = 1 + ((m + 1 : Nat) : Int) by omega] at this)⟩
              case measure => simp [intOf]; omega
          · obtain rfl : m = len' := by omega
            have eT : Cl.top (fun i => Cl.g zs (Cl.turn κ i)) m = Cl.top (Cl.g zs) m := Cl.top_turn (Cl.g zs) m κ hκ1
            rw [eT] at HF
            generalize Cl.top (Cl.g zs) m = T1 at *
            generalize Sm.st x1.told zs m = y at *
            have okA := Cl.ok T1 (1 + m) tb1 (by omega) (by omega)
            have hry : y.r = k + 1 + m := by omega
            generalize Cl.st T1 (1 + m) = xa at *
            have HLA : Hid (∀ W, Fo w w1.heap.size w3.heap.size w7.heap.size (w7.heap.size + 1) y x1.told xa xa W → Calls Try.prog 23 #[.pointer (some ⟨w7.heap.size, 0, none⟩)] W (Drawn (.int .i32 xa.lost) W)) := Lib.hid fun W hW => lost_ok _ _ W hW.ka.hold okA
            have HLB : Hid (∀ W, Fo w w1.heap.size w3.heap.size w7.heap.size (w7.heap.size + 1) y x1.told xa xa W → Calls Try.prog 23 #[.pointer (some ⟨w7.heap.size + 1, 0, none⟩)] W (Drawn (.int .i32 xa.lost) W)) := Lib.hid fun W hW => lost_ok _ _ W hW.kb.hold okA
            have HEA : Hid (∀ W, Fo w w1.heap.size w3.heap.size w7.heap.size (w7.heap.size + 1) y x1.told xa xa W → Calls Try.prog 24 #[.pointer (some ⟨w7.heap.size, 0, none⟩)] W (Drawn (.int .i64 xa.exp) W)) := Lib.hid fun W hW => expected_ok _ _ W hW.ka.hold okA
            have HEB : Hid (∀ W, Fo w w1.heap.size w3.heap.size w7.heap.size (w7.heap.size + 1) y x1.told xa xa W → Calls Try.prog 24 #[.pointer (some ⟨w7.heap.size + 1, 0, none⟩)] W (Drawn (.int .i64 xa.exp) W)) := Lib.hid fun W hW => expected_ok _ _ W hW.kb.hold okA
            have HHA : Hid (∀ W, Fo w w1.heap.size w3.heap.size w7.heap.size (w7.heap.size + 1) y x1.told xa xa W → Calls Try.prog 26 #[.pointer (some ⟨w7.heap.size, 0, none⟩)] W fun e W' => e = .returned (.int .u32 (xa.h % 4294967296)) ∧ W = W') := Lib.hid fun W hW => highest_ok _ _ W hW.ka.hold okA
            have HHB : Hid (∀ W, Fo w w1.heap.size w3.heap.size w7.heap.size (w7.heap.size + 1) y x1.told xa xa W → Calls Try.prog 26 #[.pointer (some ⟨w7.heap.size + 1, 0, none⟩)] W fun e W' => e = .returned (.int .u32 (xa.h % 4294967296)) ∧ W = W') := Lib.hid fun W hW => highest_ok _ _ W hW.kb.hold okA
            have HRC : Hid (∀ W, Fo w w1.heap.size w3.heap.size w7.heap.size (w7.heap.size + 1) y x1.told xa xa W → Calls Try.prog 25 #[.pointer (some ⟨w3.heap.size, 0, none⟩)] W fun e W' => e = .returned (.int .i64 (k + 1)) ∧ W = W') := Lib.hid fun W hW => rT ▸ received_ok _ _ W hW.kc.hold okT
            have HRS : Hid (∀ W, Fo w w1.heap.size w3.heap.size w7.heap.size (w7.heap.size + 1) y x1.told xa xa W → Calls Try.prog 25 #[.pointer (some ⟨w1.heap.size, 0, none⟩)] W fun e W' => e = .returned (.int .i64 (k + 1 + m)) ∧ W = W') := Lib.hid fun W hW => hry ▸ received_ok _ _ W hW.ks.hold hOm
            generalize xa.lost = Q1 at *
            generalize xa.exp = Q2 at *
            generalize xa.h % 4294967296 = Q3 at *
            have hS := HF.out
            clear okA hry hOm tb1 tb2 eT
            go_wp2_with fail
            refine (HLA.out _ hS).mono ?_
            rintro e _ ⟨rfl, j1, rfl⟩
            have hS1 := hS.drawn j1
            go_wp2_with fail
            refine (HLB.out _ hS1).mono ?_
            rintro e _ ⟨rfl, j2, rfl⟩
            have hS2 := hS.drawn (j1 + j2)
            go_wp2_with fail
            refine (HEA.out _ hS2).mono ?_
            rintro e _ ⟨rfl, j3, rfl⟩
            have hS3 := hS.drawn (j1 + j2 + j3)
            go_wp2_with fail
            refine (HEB.out _ hS3).mono ?_
            rintro e _ ⟨rfl, j4, rfl⟩
            have hS4 := hS.drawn (j1 + j2 + j3 + j4)
            go_wp2_with fail
            refine (HHA.out _ hS4).mono ?_
            rintro e _ ⟨rfl, rfl⟩
            go_wp2_with fail
            refine (HHB.out _ hS4).mono ?_
            rintro e _ ⟨rfl, rfl⟩
            go_wp2_with fail
            refine (HRC.out _ hS4).mono ?_
            rintro e _ ⟨rfl, rfl⟩
            go_wp2_with fail
            refine (HRS.out _ hS4).mono ?_
            rintro e _ ⟨rfl, rfl⟩
            go_wp2_with fail
            refine (HRC.out _ hS4).mono ?_
            rintro e _ ⟨rfl, rfl⟩
            go_wp2
            go_ret
            exact ⟨rfl, hS4.ks.bel⟩)
end Go.Proofs.Ytichccjnbllhnab

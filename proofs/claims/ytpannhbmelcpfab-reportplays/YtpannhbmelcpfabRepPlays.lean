
/-
  ReportPlays' walk.
-/
import Derived.Test.YtpannhbmelcpfabRepPlays0
import Derived.Deep.Cut
import Derived.Deep.CutBlock
import Derived.Deep.RegionLaw
namespace Go.Proofs.Ytpannhbmelcpfab
open Go.RowKit
set_option linter.unusedVariables false
attribute [local go_sem] Oper.semAt_some
theorem and1 (n : Int) : bits .and .i64 n 1 = n % 2 := i64_mask n 1 (by decide) _ (by decide)
/-- The reference's state of k packets: in its box x, its packets in block g. -/
structure Xb (W : World) (x : Nat) (a : Option Addr) (g k cp : Nat) (q t n : Nat → Int) (E C : Int) : Prop where
  row : W.heap[x]? = some (.cells #[.slice a k cp, .int .i64 E, .int .i64 C] 68 (0, 0))
  oat : OAt W a g k q t n
  ne : 0 < k → x < g
theorem Xb.grown {W W' : World} {x : Nat} {a : Option Addr} {g k cp : Nat} {q t n : Nat → Int} {E C : Int} {r : Option Nat} (h : Xb W x a g k cp q t n E C) (hg : W.grownBy W' r) (hx : some x ≠ r) (hr : ∀ y, r = some y → y ≤ x) : Xb W' x a g k cp q t n E C := by
  have hb : ∀ i, 0 < k → W'.cell? ⟨g, i, none⟩ = W.cell? ⟨g, i, none⟩ := fun i h0 =>
    World.cell?_of_block (hg.block g (h.oat.lt h0) (fun e => by have := hr g e.symm; have := h.ne h0; omega))
  exact ⟨(hg.block x (Array.getElem?_eq_some_iff.1 h.row).1 hx).trans h.row,
    ⟨h.oat.at', fun h0 => Nat.lt_of_lt_of_le (h.oat.lt h0) hg.size, fun i hi => (hb _ (by omega)).trans (h.oat.seq i hi), fun i hi => (hb _ (by omega)).trans (h.oat.ts i hi), fun i hi => (hb _ (by omega)).trans (h.oat.now i hi), h.oat.rq, h.oat.rt⟩, h.ne⟩
theorem Xb.put {W : World} {x : Nat} {a : Option Addr} {g k cp : Nat} {q t n : Nat → Int} {E C : Int} (h : Xb W x a g k cp q t n E C) (E' C' : Int) :
    Xb (((W.setCell ⟨x, 0, none⟩ (.slice a k cp)).setCell ⟨x, 1, none⟩ (.int .i64 E')).setCell ⟨x, 2, none⟩ (.int .i64 C')) x a g k cp q t n E' C' ∧ W.grownBy (((W.setCell ⟨x, 0, none⟩ (.slice a k cp)).setCell ⟨x, 1, none⟩ (.int .i64 E')).setCell ⟨x, 2, none⟩ (.int .i64 C')) (some x) := by
  have hg : W.grownBy (((W.setCell ⟨x, 0, none⟩ (.slice a k cp)).setCell ⟨x, 1, none⟩ (.int .i64 E')).setCell ⟨x, 2, none⟩ (.int .i64 C')) (some x) := ⟨rfl, rfl, rfl, by simp, fun j _ hj => by
    have hne : j ≠ x := fun e => hj (by rw [e])
    exact (Below.heap_setCell _ _ _ j hne).trans ((Below.heap_setCell _ _ _ j hne).trans (Below.heap_setCell _ _ _ j hne))⟩
  exact ⟨⟨heap_setCell_same _ x 2 _ _ _ (heap_setCell_same _ x 1 _ _ _ (heap_setCell_same W x 0 _ _ _ h.row)), h.oat.other hg (fun h0 => by have := h.ne h0; omega), h.ne⟩, hg⟩
theorem below_grown {W W' : World} (h : Below W.heap.size W W') : W.grownBy W' none := ⟨h.os, h.tape, h.output, h.size, fun i hi _ => h.block i hi⟩
set_option maxRecDepth 100000 in
set_option maxHeartbeats 1000000 in
theorem walk_ReportPlays (a : Option Addr) (len cap : Nat) (q t n : Nat → Int) (ssrc : Int) (w : World)
    (hr : StructsIn w a len cap [(.u16, q), (.u32, t), (.i64, n)]) :
    Calls Try.prog 7 #[.slice a len cap, .int .u32 ssrc] w (TrueBelow w) := by
  obtain ⟨b, off, hlen, ha, hc⟩ := hr.open
  by_cases h1 : 60 < len
  · have h1' : (60 : Int) < (len : Int) := by omega
    clear hc ha hr
    go_enter Try.func7, Try.ntmps7
    go_wp2_with (go_at_call 21; refine (alive8_any _).mono ?_; rintro e w1 ⟨rfl, hB⟩)
    go_ret
    exact ⟨rfl, hB⟩
  have h1' : ¬ (60 : Int) < (len : Int) := by omega
  have hOk := Os.ok q t n len (fun i hi => (hc i hi).2.2.2.2.1) (by omega)
  have HOK := Lib.hid hOk; clear hOk
  have HC := Lib.hid hc; clear hc
  have HA := Lib.hid ha; clear ha hr
  go_enter Try.func7, Try.ntmps7
  go_wp2_with fail
  refine (alive8_any _).mono ?_
  rintro e w1 ⟨rfl, hB⟩
  have K1 := Lib.hid (Kp.new hB); clear hB
  go_wp2
  have hX0 : Hid (Xb ((w1.alloc (.cells #[.int .i64 0, .int .i64 0, .int .i64 0, .int .i64 0, .int .u32 0, .int .i64 0, .int .i64 0, .int .i64 0] 66)).alloc (.cells #[.slice none 0 0, .int .i64 0, .int .i64 0] 68)) (w1.heap.size + 1) none 0 0 0 q t n 0 0) := Lib.hid ⟨by
      have := heap_new (w1.alloc (.cells #[.int .i64 0, .int .i64 0, .int .i64 0, .int .i64 0, .int .u32 0, .int .i64 0, .int .i64 0, .int .i64 0] 66)) (.cells #[.slice none 0 0, .int .i64 0, .int .i64 0] 68)
      simpa using this, ⟨fun h => by omega, fun h => by omega, fun i h => by omega, fun i h => by omega, fun i h => by omega, fun i h => by omega, fun i h => by omega⟩, fun h => by omega⟩
  go_loopw [22] (fun i wr => ∃ (k : Nat) (E C : Int) (a' : Option Addr) (g cp : Nat), k ≤ len ∧ i = .int .i64 k ∧ Hid (Kp w w1.heap.size (Ys q t n k E C) wr) ∧ Hid (Xb wr (w1.heap.size + 1) a' g k cp q t n E C) ∧ 0 ≤ E ∧ Hid (E ≤ (Os.st q t n k).exp) ∧ 0 ≤ C ∧ C ≤ k) (fun i _ => len - (intOf i).toNat)
  case atStart => exact ⟨0, 0, 0, none, 0, 0, Nat.zero_le _, rfl, Lib.hid (K1.out.new2 (gb_alloc _ _ _)), hX0, by omega, Lib.hid (by show (0 : Int) ≤ Rep.exp 0 0 0; decide), by omega, by omega⟩
  case round =>
    clear K1 hX0
    obtain ⟨k, E, C, a', g, cp, hk, rfl, HK, HX, e0, HE1, c0', c1'⟩ := hrel
    have okY := Lib.hid (Ys.ok q t n k E C (HOK.out k hk) ⟨e0, HE1.out⟩ ⟨c0', c1'⟩)
    have xb := (HOK.out k hk).exp_bd
    have hE4 : E ≤ 40000000 := by have := HE1.out; omega
    clear xb
    by_cases hlt : k < len
    · obtain ⟨hb, hc0, hc1, hc2, hq, ht, hn⟩ := HC.out k hlt
      have c0 : wr.cell? ⟨b, off + k * 3, none⟩ = some (.int .u16 (q k)) := (HK.out.bel.cell (p := ⟨b, off + k * 3, none⟩) hb).trans hc0
      have c1 : wr.cell? ⟨b, off + k * 3 + 1, none⟩ = some (.int .u32 (t k)) := (HK.out.bel.cell (p := ⟨b, off + k * 3 + 1, none⟩) hb).trans hc1
      have c2 : wr.cell? ⟨b, off + k * 3 + 2, none⟩ = some (.int .i64 (n k)) := (HK.out.bel.cell (p := ⟨b, off + k * 3 + 2, none⟩) hb).trans hc2
      obtain rfl := HA.out (by omega)
      clear hc0 hc1 hc2
      have and' := and1 (n k)
      have hkL : k ≤ 60 := by omega
      have RQ : Hid (∀ i, i < k + 1 → (Lit.int .u16 (q i)).wf = true) := Lib.hid fun i hi => by
        have := (HC.out i (by omega)).2.2.2.2.1
        simp [Lit.wf, IntKind.min, IntKind.max, IntKind.bits, IntKind.signed]; omega
      have RT : Hid (∀ i, i < k + 1 → 0 ≤ t i ∧ t i < 4294967296) := Lib.hid fun i hi => (HC.out i (by omega)).2.2.2.2.2.1
      have OKN := Lib.hid (HOK.out (k + 1) (by omega))
      have OK0 := Lib.hid (HOK.out k (by omega))
      have NOTE : Hid (∀ (E C : Int) W, Kp w w1.heap.size (Ys q t n k E C) W → (Ys q t n k E C).Ok → Calls Try.prog 24 #[.pointer (some ⟨w1.heap.size, 0, none⟩), .int .u16 (q k), .int .u32 (t k), .int .i64 (n k)] W fun z W' => z = .returned (.tuple #[]) ∧ Kp w w1.heap.size (Ys q t n (k + 1) E C) W' ∧ W.grownBy W' (some w1.heap.size)) := Lib.hid fun E C W hK hY =>
        (note_ok w1.heap.size (Ys q t n k E C) (q k) (t k) (n k) W hK.hold hY (by show (Os.st q t n k).r < 1000; rw [Os.r]; omega) hq.1 hq.2).mono fun z W' ⟨h1, h2, h3⟩ => ⟨h1, hK.grown (Ys.note q t n k E C ▸ h2) h3, h3⟩
      obtain ⟨qk, eq⟩ : ∃ z, q k = z := ⟨_, rfl⟩
      obtain ⟨tk, et⟩ : ∃ z, t k = z := ⟨_, rfl⟩
      obtain ⟨nk, en⟩ : ∃ z, n k = z := ⟨_, rfl⟩
      rw [eq, et, en] at NOTE
      rw [eq] at c0 hq; rw [et] at c1 ht; rw [en] at c2 and' hn
      have EQ := Lib.hid (show q k = qk ∧ t k = tk ∧ n k = nk from ⟨eq, et, en⟩)
      clear eq et en
      go_upto_region 9 with (fail)
      go_cut [34] from 26 to 34 (fun tv wx => (∃ T : Bool, tv = .bool T) ∧ wx = wr.alloc (.cells #[.int .u16 qk, .int .u32 tk, .int .i64 nk] 71))
      case first =>
        by_cases p1 : nk < 0
        · go_wp2_with fail
          go_meet
          exact ⟨⟨_, rfl⟩, rfl⟩
        · by_cases p2 : nk % 2 = 1
          · have p2 : (nk % 2 == 1) = true := by rw [beq_iff_eq]; exact p2
            go_wp2_with fail
            go_meet
            exact ⟨⟨_, rfl⟩, rfl⟩
          · have p2 : (nk % 2 == 1) = false := by rw [beq_eq_false_iff_ne]; exact p2
            go_wp2_with fail
            go_meet
            exact ⟨⟨_, rfl⟩, rfl⟩
      case rest =>
      obtain ⟨⟨T, rfl⟩, rfl⟩ := hcut
      have KA := Lib.hid (HK.out.new2 (gb_alloc wr (.cells #[.int .u16 qk, .int .u32 tk, .int .i64 nk] 71) none))
      have XA : Hid (Xb (wr.alloc (.cells #[.int .u16 qk, .int .u32 tk, .int .i64 nk] 71)) (w1.heap.size + 1) a' g k cp q t n E C) := Lib.hid (HX.out.grown (gb_alloc _ _ none) (by intro h; cases h) (by intro y h; cases h))
      have OA := Lib.hid (heap_new wr (.cells #[.int .u16 qk, .int .u32 tk, .int .i64 nk] 71))
      go_upto_if 34 with (fail)
      go_cut [9, 10, 11] from 35 to 47 (fun z9 z10 z11 wx => ∃ (E' C' : Int), Hid (Kp w w1.heap.size (Ys q t n k E' C') wx) ∧ Hid (Xb wx (w1.heap.size + 1) a' g k cp q t n E' C') ∧ 0 ≤ E' ∧ Hid (E' ≤ (Os.st q t n k).exp) ∧ 0 ≤ C' ∧ C' ≤ k ∧ Hid (wx.heap[wr.heap.size]? = some (.cells #[.int .u16 qk, .int .u32 tk, .int .i64 nk] 71 (0, 0))))
      case first =>
        cases T
        · go_wp2_with fail
          go_meet
          exact ⟨E, C, KA, XA, e0, HE1, c0', c1', OA⟩
        · have HRP : ∀ W, Kp w w1.heap.size (Ys q t n k E C) W → Calls Try.prog 22 #[.pointer (some ⟨w1.heap.size, 0, none⟩), .int .u32 ssrc] W (fun e W' => e = .returned (.agg #[.int .u32 ssrc, .int .i64 (Rep.frac ((Os.st q t n k).exp - E) (k - C)), .int .i32 (Os.st q t n k).lost, .int .u32 ((Os.st q t n k).h % 4294967296), .int .u32 (Rep.jit (Os.st q t n k).s), .int .u32 0, .int .u32 0]) ∧ Kp w w1.heap.size (Ys q t n k (Os.st q t n k).exp k) W' ∧ W.grownBy W' (some w1.heap.size)) := fun W hK => by
            have h0 := report_ok w1.heap.size (Ys q t n k E C) ssrc W hK.hold okY.out
            rw [Ys.told, Ys.frac] at h0
            exact h0.mono fun e W' ⟨h1, h2, h3⟩ => ⟨h1, hK.grown h2 h3, h3⟩
          have HRF : ∀ W, Xb W (w1.heap.size + 1) a' g k cp q t n E C → Calls Try.prog 23 #[.agg #[.slice a' k cp, .int .i64 E, .int .i64 C], .int .u32 ssrc] W (RePost (.tuple #[.agg #[.int .u32 ssrc, .int .i64 (Rep.frac ((Os.st q t n k).exp - E) (k - C)), .int .i32 (Os.st q t n k).lost, .int .u32 ((Os.st q t n k).h % 4294967296), .int .u32 (Rep.jit (Os.st q t n k).s), .int .u32 0, .int .u32 0], .agg #[.slice a' k cp, .int .i64 (Os.st q t n k).exp, .int .i64 k]]) W) := fun W hX => refreport_any a' g k cp q t n E C ssrc W hX.oat hkL ⟨e0, hE4⟩ ⟨c0', by omega⟩
          have eX0 : 0 ≤ (Os.st q t n k).exp := by have := HE1.out; omega
          generalize Rep.frac ((Os.st q t n k).exp - E) (k - C) = Fr at HRP HRF
          generalize (Os.st q t n k).lost = Lo at HRP HRF
          generalize (Os.st q t n k).h % 4294967296 = Hi at HRP HRF
          generalize Rep.jit (Os.st q t n k).s = Ji at HRP HRF
          obtain ⟨EX, hEX⟩ : ∃ z, (Os.st q t n k).exp = z := ⟨_, rfl⟩
          rw [hEX] at HRP HRF eX0
          have HEX := Lib.hid hEX; clear hEX
          have HRP := Lib.hid HRP; have HRF := Lib.hid HRF
          have rq' := fun W => rneq_same ssrc Fr Lo Hi Ji W
          go_wp2_with fail
          refine (HRP.out _ KA.out).mono ?_
          rintro e w4 ⟨rfl, h4, g4⟩
          have hneX : some (w1.heap.size + 1) ≠ some w1.heap.size := by intro h; injection h with h; omega
          have X4 := Lib.hid (XA.out.grown g4 hneX (by intro y h; injection h with h; omega))
          have K4 := Lib.hid h4
          have O4 := Lib.hid ((g4.block wr.heap.size (by simp) (by intro h; injection h with h; have := HK.out.hold.lt; omega)).trans OA.out)
          clear h4 g4
          have x4 := fun o => (X4.out.grown (gb_alloc w4 o none) (by intro h; cases h) (by intro y h; cases h)).row
          have x0 : ∀ o, (w4.alloc o).cell? ⟨w1.heap.size + 1, 0, none⟩ = some (.slice a' k cp) := fun o => by rw [cell_of_row _ _ 0 _ _ _ (x4 o)]; rfl
          have x1 : ∀ o, (w4.alloc o).cell? ⟨w1.heap.size + 1, 1, none⟩ = some (.int .i64 E) := fun o => by rw [cell_of_row _ _ 1 _ _ _ (x4 o)]; rfl
          have x2 : ∀ o, (w4.alloc o).cell? ⟨w1.heap.size + 1, 2, none⟩ = some (.int .i64 C) := fun o => by rw [cell_of_row _ _ 2 _ _ _ (x4 o)]; rfl
          clear x4
          go_wp2_with fail
          have hX5 := X4.out.grown (gb_alloc w4 (.cells #[.int .u32 ssrc, .int .i64 Fr, .int .i32 Lo, .int .u32 Hi, .int .u32 Ji, .int .u32 0, .int .u32 0] 53) none) (by intro h; cases h) (by intro y h; cases h)
          refine (HRF.out _ hX5).mono ?_
          rintro e w5 ⟨rfl, hb5⟩
          have hg5 := below_grown hb5
          have hX6 := hX5.grown hg5 (by intro h; cases h) (by intro y h; cases h)
          have hK6 := (K4.out.new2 (gb_alloc w4 (.cells #[.int .u32 ssrc, .int .i64 Fr, .int .i32 Lo, .int .u32 Hi, .int .u32 Ji, .int .u32 0, .int .u32 0] 53) none)).new2 hg5
          have hO6 := (hb5.block wr.heap.size (by have := (Array.getElem?_eq_some_iff.1 O4.out).1; simp; omega)).trans ((gb_alloc w4 (.cells #[.int .u32 ssrc, .int .i64 Fr, .int .i32 Lo, .int .u32 Hi, .int .u32 Ji, .int .u32 0, .int .u32 0] 53) none).block wr.heap.size (Array.getElem?_eq_some_iff.1 O4.out).1 (by intro h; cases h))
          have hR6 := (hb5.block w4.heap.size (by simp)).trans (heap_new w4 (.cells #[.int .u32 ssrc, .int .i64 Fr, .int .i32 Lo, .int .u32 Hi, .int .u32 Ji, .int .u32 0, .int .u32 0] 53))
          have hz5 : w4.heap.size < w5.heap.size := by have := hb5.size; simp at this; omega
          have X6 := Lib.hid hX6; have K6 := Lib.hid hK6; have O6 := Lib.hid (hO6.trans O4.out); have R6 := Lib.hid hR6
          clear hb5 hg5 hX5 hX6 hK6 hO6 hR6 x0 x1 x2
          have X7 : Hid (∀ o o', Xb ((w5.alloc o).alloc o') (w1.heap.size + 1) a' g k cp q t n E C) := Lib.hid fun o o' => (X6.out.grown (gb_alloc w5 o none) (by intro h; cases h) (by intro y h; cases h)).grown (gb_alloc _ o' none) (by intro h; cases h) (by intro y h; cases h)
          have fx : ∀ o o' i, ((w5.alloc o).alloc o').frozen? ⟨w1.heap.size + 1, i, none⟩ = false := fun o o' i => frozen_of_row _ _ i _ _ (X7.out o o').row
          have cx0 : ∀ o o', ((w5.alloc o).alloc o').cell? ⟨w1.heap.size + 1, 0, none⟩ = some (.slice a' k cp) := fun o o' => by rw [cell_of_row _ _ 0 _ _ _ (X7.out o o').row]; rfl
          have cx1 : ∀ o o', ((w5.alloc o).alloc o').cell? ⟨w1.heap.size + 1, 1, none⟩ = some (.int .i64 E) := fun o o' => by rw [cell_of_row _ _ 1 _ _ _ (X7.out o o').row]; rfl
          have cx2 : ∀ o o', ((w5.alloc o).alloc o').cell? ⟨w1.heap.size + 1, 2, none⟩ = some (.int .i64 C) := fun o o' => by rw [cell_of_row _ _ 2 _ _ _ (X7.out o o').row]; rfl
          go_upto_region 13 with (fail)
          obtain ⟨w7, hw7⟩ : ∃ W, W = (w5.alloc (.cells #[.int .u32 ssrc, .int .i64 Fr, .int .i32 Lo, .int .u32 Hi, .int .u32 Ji, .int .u32 0, .int .u32 0] 53)).alloc (.cells #[.slice a' k cp, .int .i64 EX, .int .i64 k] 68) := ⟨_, rfl⟩
          rw [← hw7]
          have X8 := (X7.out (.cells #[.int .u32 ssrc, .int .i64 Fr, .int .i32 Lo, .int .u32 Hi, .int .u32 Ji, .int .u32 0, .int .u32 0] 53) (.cells #[.slice a' k cp, .int .i64 EX, .int .i64 k] 68)).put EX k
          have hB7 : Below w5.heap.size w5 w7 := by rw [hw7]; exact ((Below.refl _ w5).alloc (Nat.le_refl _) _).alloc (by simp) _
          have hW7 := (hB7.block w4.heap.size hz5).trans R6.out
          have hV7 : w7.heap[w5.heap.size]? = some (.cells #[.int .u32 ssrc, .int .i64 Fr, .int .i32 Lo, .int .u32 Hi, .int .u32 Ji, .int .u32 0, .int .u32 0] 53 (0, 0)) := by rw [hw7]; exact (heap_alloc_old _ _ (by simp)).trans (heap_new w5 _)
          rw [← hw7] at X8
          obtain ⟨w8, hw8⟩ : ∃ W, W = (((w7.setCell ⟨w1.heap.size + 1, 0, none⟩ (.slice a' k cp)).setCell ⟨w1.heap.size + 1, 1, none⟩ (.int .i64 EX)).setCell ⟨w1.heap.size + 1, 2, none⟩ (.int .i64 k)) := ⟨_, rfl⟩
          rw [← hw8] at X8 ⊢
          have hx4 := X4.out.row; have hx4 := (Array.getElem?_eq_some_iff.1 hx4).1
          have hW8 := (X8.2.block w4.heap.size (Array.getElem?_eq_some_iff.1 hW7).1 (by intro h; injection h with h; omega)).trans hW7
          have hV8 := (X8.2.block w5.heap.size (Array.getElem?_eq_some_iff.1 hV7).1 (by intro h; injection h with h; omega)).trans hV7
          have K8 := Lib.hid ((K6.out.new2 (below_grown hB7)).other X8.2 (by have := HK.out.le; omega) (by omega))
          have O8 := Lib.hid ((X8.2.block wr.heap.size (by have := (Array.getElem?_eq_some_iff.1 O6.out).1; have := hB7.size; omega) (by intro h; injection h with h; have := (Array.getElem?_eq_some_iff.1 HX.out.row).1; omega)).trans ((hB7.block wr.heap.size (Array.getElem?_eq_some_iff.1 O6.out).1).trans O6.out))
          have X9 := Lib.hid X8.1
          clear hw7 hw8 fx cx0 cx1 cx2 X8 hB7 hW7 hV7 hx4
          have y0 := cell_of_row w8 _ 0 _ _ _ hW8; have y1 := cell_of_row w8 _ 1 _ _ _ hW8; have y2 := cell_of_row w8 _ 2 _ _ _ hW8; have y3 := cell_of_row w8 _ 3 _ _ _ hW8; have y4 := cell_of_row w8 _ 4 _ _ _ hW8; have y5 := cell_of_row w8 _ 5 _ _ _ hW8; have y6 := cell_of_row w8 _ 6 _ _ _ hW8
          have v0 := cell_of_row w8 _ 0 _ _ _ hV8; have v1 := cell_of_row w8 _ 1 _ _ _ hV8; have v2 := cell_of_row w8 _ 2 _ _ _ hV8; have v3 := cell_of_row w8 _ 3 _ _ _ hV8; have v4 := cell_of_row w8 _ 4 _ _ _ hV8; have v5 := cell_of_row w8 _ 5 _ _ _ hV8; have v6 := cell_of_row w8 _ 6 _ _ _ hV8
          simp only [List.getElem?_toArray, List.getElem?_cons_zero, List.getElem?_cons_succ] at y0 y1 y2 y3 y4 y5 y6 v0 v1 v2 v3 v4 v5 v6
          clear hW8 hV8
          go_wp2_with fail
          go_meet
          exact ⟨EX, k, K8, X9, eX0, Lib.hid (by rw [HEX.out]; exact Int.le_refl _), by omega, by omega, O8⟩
      case rest =>
      obtain ⟨E1, C1, HK1, HX1, e1, HE2, d1, d2, O1⟩ := hcut
      have hwx : w1.heap.size + 1 < wr.heap.size := (Array.getElem?_eq_some_iff.1 HX.out.row).1
      have hle : w.heap.size ≤ w1.heap.size := HK.out.le
      clear c0 c1 c2 and' KA XA OA HK HX okY e0 HE1 c0' c1' hE4
      have s0 : wc.cell? ⟨wr.heap.size, 0, none⟩ = some (.int .u16 qk) := by rw [cell_of_row _ _ 0 _ _ _ O1.out]; rfl
      have s1 : wc.cell? ⟨wr.heap.size, 1, none⟩ = some (.int .u32 tk) := by rw [cell_of_row _ _ 1 _ _ _ O1.out]; rfl
      have s2 : wc.cell? ⟨wr.heap.size, 2, none⟩ = some (.int .i64 nk) := by rw [cell_of_row _ _ 2 _ _ _ O1.out]; rfl
      have NT := Lib.hid (NOTE.out E1 C1 wc HK1.out (Ys.ok q t n k E1 C1 OK0.out ⟨e1, HE2.out⟩ ⟨d1, d2⟩))
      go_upto_region 16 with (go_at_call 24; refine NT.out.mono ?_; rintro e w3 ⟨rfl, h3, g3⟩)
      have K3 := Lib.hid h3
      have X3 : Hid (Xb w3 (w1.heap.size + 1) a' g k cp q t n E1 C1) := Lib.hid (HX1.out.grown g3 (by intro h; injection h with h; omega) (by intro y h; injection h with h; omega))
      have O3 := Lib.hid ((g3.block wr.heap.size (Array.getElem?_eq_some_iff.1 O1.out).1 (by intro h; injection h with h; omega)).trans O1.out)
      clear h3 g3 NOTE NT s0 s1 s2 O1
      have hne : wr.heap.size ≠ w1.heap.size + 1 := by omega
      have SA : ∀ W, SX w3 (w1.heap.size + 1) E1 C1 W → (SX w3 (w1.heap.size + 1) E1 C1 W ∧ W.cell? ⟨wr.heap.size, 0, none⟩ = some (.int .u16 qk) ∧ W.cell? ⟨wr.heap.size, 1, none⟩ = some (.int .u32 tk) ∧ W.cell? ⟨wr.heap.size, 2, none⟩ = some (.int .i64 nk) ∧ W.frozen? ⟨w1.heap.size + 1, 0, none⟩ = false) := fun W h => sx_all O3.out hne h
      have KD : Hid (∀ W, (SX w3 (w1.heap.size + 1) E1 C1 W ∧ W.cell? ⟨wr.heap.size, 0, none⟩ = some (.int .u16 qk) ∧ W.cell? ⟨wr.heap.size, 1, none⟩ = some (.int .u32 tk) ∧ W.cell? ⟨wr.heap.size, 2, none⟩ = some (.int .i64 nk) ∧ W.frozen? ⟨w1.heap.size + 1, 0, none⟩ = false) → (SX w3 (w1.heap.size + 1) E1 C1 W.drew ∧ W.drew.cell? ⟨wr.heap.size, 0, none⟩ = some (.int .u16 qk) ∧ W.drew.cell? ⟨wr.heap.size, 1, none⟩ = some (.int .u32 tk) ∧ W.drew.cell? ⟨wr.heap.size, 2, none⟩ = some (.int .i64 nk) ∧ W.drew.frozen? ⟨w1.heap.size + 1, 0, none⟩ = false)) := Lib.hid fun W h => SA _ h.1.drew
      have KA : Hid (∀ W o, (SX w3 (w1.heap.size + 1) E1 C1 W ∧ W.cell? ⟨wr.heap.size, 0, none⟩ = some (.int .u16 qk) ∧ W.cell? ⟨wr.heap.size, 1, none⟩ = some (.int .u32 tk) ∧ W.cell? ⟨wr.heap.size, 2, none⟩ = some (.int .i64 nk) ∧ W.frozen? ⟨w1.heap.size + 1, 0, none⟩ = false) → (SX w3 (w1.heap.size + 1) E1 C1 (W.alloc o) ∧ (W.alloc o).cell? ⟨wr.heap.size, 0, none⟩ = some (.int .u16 qk) ∧ (W.alloc o).cell? ⟨wr.heap.size, 1, none⟩ = some (.int .u32 tk) ∧ (W.alloc o).cell? ⟨wr.heap.size, 2, none⟩ = some (.int .i64 nk) ∧ (W.alloc o).frozen? ⟨w1.heap.size + 1, 0, none⟩ = false)) := Lib.hid fun W o h => SA _ (h.1.alloc o)
      have KAD : Hid (∀ (W : World) (o : Obj), (SX w3 (w1.heap.size + 1) E1 C1 W.drew ∧ W.drew.cell? ⟨wr.heap.size, 0, none⟩ = some (.int .u16 qk) ∧ W.drew.cell? ⟨wr.heap.size, 1, none⟩ = some (.int .u32 tk) ∧ W.drew.cell? ⟨wr.heap.size, 2, none⟩ = some (.int .i64 nk) ∧ W.drew.frozen? ⟨w1.heap.size + 1, 0, none⟩ = false) → (SX w3 (w1.heap.size + 1) E1 C1 ((W.alloc o).drew) ∧ ((W.alloc o).drew).cell? ⟨wr.heap.size, 0, none⟩ = some (.int .u16 qk) ∧ ((W.alloc o).drew).cell? ⟨wr.heap.size, 1, none⟩ = some (.int .u32 tk) ∧ ((W.alloc o).drew).cell? ⟨wr.heap.size, 2, none⟩ = some (.int .i64 nk) ∧ ((W.alloc o).drew).frozen? ⟨w1.heap.size + 1, 0, none⟩ = false)) := Lib.hid fun W o h => SA _ (h.1.allocd o)
      have KS : Hid (∀ W v, (SX w3 (w1.heap.size + 1) E1 C1 W ∧ W.cell? ⟨wr.heap.size, 0, none⟩ = some (.int .u16 qk) ∧ W.cell? ⟨wr.heap.size, 1, none⟩ = some (.int .u32 tk) ∧ W.cell? ⟨wr.heap.size, 2, none⟩ = some (.int .i64 nk) ∧ W.frozen? ⟨w1.heap.size + 1, 0, none⟩ = false) → (SX w3 (w1.heap.size + 1) E1 C1 (W.setCell ⟨w1.heap.size + 1, 0, none⟩ v) ∧ (W.setCell ⟨w1.heap.size + 1, 0, none⟩ v).cell? ⟨wr.heap.size, 0, none⟩ = some (.int .u16 qk) ∧ (W.setCell ⟨w1.heap.size + 1, 0, none⟩ v).cell? ⟨wr.heap.size, 1, none⟩ = some (.int .u32 tk) ∧ (W.setCell ⟨w1.heap.size + 1, 0, none⟩ v).cell? ⟨wr.heap.size, 2, none⟩ = some (.int .i64 nk) ∧ (W.setCell ⟨w1.heap.size + 1, 0, none⟩ v).frozen? ⟨w1.heap.size + 1, 0, none⟩ = false)) := Lib.hid fun W v h => SA _ (h.1.store v).1
      have KG : Hid (∀ W W' r, (SX w3 (w1.heap.size + 1) E1 C1 W ∧ W.cell? ⟨wr.heap.size, 0, none⟩ = some (.int .u16 qk) ∧ W.cell? ⟨wr.heap.size, 1, none⟩ = some (.int .u32 tk) ∧ W.cell? ⟨wr.heap.size, 2, none⟩ = some (.int .i64 nk) ∧ W.frozen? ⟨w1.heap.size + 1, 0, none⟩ = false) → W.grownBy W' r → (∀ y, r = some y → w3.heap.size ≤ y) → (SX w3 (w1.heap.size + 1) E1 C1 W' ∧ W'.cell? ⟨wr.heap.size, 0, none⟩ = some (.int .u16 qk) ∧ W'.cell? ⟨wr.heap.size, 1, none⟩ = some (.int .u32 tk) ∧ W'.cell? ⟨wr.heap.size, 2, none⟩ = some (.int .i64 nk) ∧ W'.frozen? ⟨w1.heap.size + 1, 0, none⟩ = false)) := Lib.hid fun W W' r h hg hr => SA _ (h.1.grown hg hr)
      have KZ : Hid (∀ W, (SX w3 (w1.heap.size + 1) E1 C1 W ∧ W.cell? ⟨wr.heap.size, 0, none⟩ = some (.int .u16 qk) ∧ W.cell? ⟨wr.heap.size, 1, none⟩ = some (.int .u32 tk) ∧ W.cell? ⟨wr.heap.size, 2, none⟩ = some (.int .i64 nk) ∧ W.frozen? ⟨w1.heap.size + 1, 0, none⟩ = false) → w3.heap.size ≤ W.heap.size) := Lib.hid fun W h => h.1.gr.size
      have KO : Hid (∀ W, (SX w3 (w1.heap.size + 1) E1 C1 W ∧ W.cell? ⟨wr.heap.size, 0, none⟩ = some (.int .u16 qk) ∧ W.cell? ⟨wr.heap.size, 1, none⟩ = some (.int .u32 tk) ∧ W.cell? ⟨wr.heap.size, 2, none⟩ = some (.int .i64 nk) ∧ W.frozen? ⟨w1.heap.size + 1, 0, none⟩ = false) → OAt W a' g k q t n) := Lib.hid fun W h => sx_oat h.1 X3.out.oat X3.out.ne
      have XD : Hid (∀ W a2 c2, (SX w3 (w1.heap.size + 1) E1 C1 W ∧ W.cell? ⟨wr.heap.size, 0, none⟩ = some (.int .u16 qk) ∧ W.cell? ⟨wr.heap.size, 1, none⟩ = some (.int .u32 tk) ∧ W.cell? ⟨wr.heap.size, 2, none⟩ = some (.int .i64 nk) ∧ W.frozen? ⟨w1.heap.size + 1, 0, none⟩ = false) → W.ownsRow w3.heap.size 71 3 (.slice a2 (k + 1) c2) (k + 1) (ones q t n (k + 1)) → ∃ (a9 : Option Addr) (g2 c2' : Nat), Hid (Kp w w1.heap.size (Ys q t n (k + 1) E1 C1) (W.setCell ⟨w1.heap.size + 1, 0, none⟩ (.slice a2 (k + 1) c2))) ∧ Hid (Xb (W.setCell ⟨w1.heap.size + 1, 0, none⟩ (.slice a2 (k + 1) c2)) (w1.heap.size + 1) a9 g2 (k + 1) c2' q t n E1 C1)) := Lib.hid fun W a2 c2 h hO => by
        obtain ⟨g2, hb2, ho2⟩ := own_oat hO (by omega) RQ.out RT.out
        have hx3 := h.1.lt
        obtain ⟨hs1, hs2⟩ := h.1.store (.slice a2 (k + 1) c2)
        refine ⟨a2, g2, c2, Lib.hid (K3.out.other hs1.gr (by omega) (by omega)), Lib.hid ⟨hs2, ho2.other (r := w1.heap.size + 1) ⟨rfl, rfl, rfl, by simp, fun j _ hj => Below.heap_setCell W _ _ j (fun e => hj (by rw [e]))⟩ (fun _ => by omega), fun _ => by omega⟩⟩
      have hS0 : (SX w3 (w1.heap.size + 1) E1 C1 w3 ∧ w3.cell? ⟨wr.heap.size, 0, none⟩ = some (.int .u16 qk) ∧ w3.cell? ⟨wr.heap.size, 1, none⟩ = some (.int .u32 tk) ∧ w3.cell? ⟨wr.heap.size, 2, none⟩ = some (.int .i64 nk) ∧ w3.frozen? ⟨w1.heap.size + 1, 0, none⟩ = false) := SA _ (SX.start X3.out.row)
      have l0 := cell_of_row w3 _ 0 _ _ _ X3.out.row
      simp only [List.getElem?_toArray, List.getElem?_cons_zero, List.getElem?_cons_succ] at l0
      have hx3 : w1.heap.size + 1 < w3.heap.size := (Array.getElem?_eq_some_iff.1 X3.out.row).1
      have l1 : ∀ o, (w3.alloc o).cell? ⟨w1.heap.size + 1, 0, none⟩ = some (.slice a' k cp) := fun o => (World.cell?_of_block (w := w3) (a := ⟨w1.heap.size + 1, 0, none⟩) (heap_alloc_old w3 o hx3)).trans l0
      have l2 : ∀ o o', ((w3.alloc o).alloc o').cell? ⟨w1.heap.size + 1, 0, none⟩ = some (.slice a' k cp) := fun o o' => (World.cell?_of_block (w := w3.alloc o) (a := ⟨w1.heap.size + 1, 0, none⟩) (heap_alloc_old _ o' (by simp; omega))).trans (l1 o)
      obtain ⟨_, s0, s1, s2, _⟩ := id hS0
      have s0a : ∀ o, (w3.alloc o).cell? ⟨wr.heap.size, 0, none⟩ = some (.int .u16 qk) := fun o => (KA.out _ o hS0).2.1
      have s1a : ∀ o, (w3.alloc o).cell? ⟨wr.heap.size, 1, none⟩ = some (.int .u32 tk) := fun o => (KA.out _ o hS0).2.2.1
      have s2a : ∀ o, (w3.alloc o).cell? ⟨wr.heap.size, 2, none⟩ = some (.int .i64 nk) := fun o => (KA.out _ o hS0).2.2.2.1
      have l0d : w3.drew.cell? ⟨w1.heap.size + 1, 0, none⟩ = some (.slice a' k cp) := l0
      have l1d : ∀ o, (w3.alloc o).drew.cell? ⟨w1.heap.size + 1, 0, none⟩ = some (.slice a' k cp) := l1
      have l2d : ∀ o o', ((w3.alloc o).alloc o').drew.cell? ⟨w1.heap.size + 1, 0, none⟩ = some (.slice a' k cp) := l2
      obtain ⟨eq, et, en⟩ := EQ.out
      have EQ0 : (Obj.cells #[.int .u16 qk, .int .u32 tk, .int .i64 nk] 71 (0, 0)) = .cells #[.int .u16 (q k), .int .u32 (t k), .int .i64 (n k)] 71 (0, 0) := by rw [eq, et, en]
      have EQV := Lib.hid EQ0
      clear SA X3 O3 eq et en EQ0
      go_cut [] from 56 to 63 (fun wx => ∃ (a2 : Option Addr) (g2 c2 : Nat), Hid (Kp w w1.heap.size (Ys q t n (k + 1) E1 C1) wx) ∧ Hid (Xb wx (w1.heap.size + 1) a2 g2 (k + 1) c2 q t n E1 C1))
      case first =>
        go_region_law (first
            | (refine step_ap1 rfl (.tmp 56) (.tmp 58) rfl w3.heap.size (by rfl) a' k cp g q t n (by rfl) w3.heap.size (by first | exact own0d _ _ _ rfl (Nat.le_refl _) | exact own0ad _ _ _ _ rfl (Nat.le_refl _)) (KO.out _ (by first | with_reducible exact KD.out _ hS0 | with_reducible exact KAD.out _ _ (KD.out _ hS0) | with_reducible exact KAD.out _ _ (KAD.out _ _ (KD.out _ hS0)))) hkL (KZ.out _ (by first | with_reducible exact KD.out _ hS0 | with_reducible exact KAD.out _ _ (KD.out _ hS0) | with_reducible exact KAD.out _ _ (KAD.out _ _ (KD.out _ hS0)))) ?_
               intro aA cA wA hOA hgA
               have hSA := KG.out _ _ _ (by first | with_reducible exact KD.out _ hS0 | with_reducible exact KAD.out _ _ (KD.out _ hS0) | with_reducible exact KAD.out _ _ (KAD.out _ _ (KD.out _ hS0))) hgA (fun y hy => by injection hy with hy; omega)
               obtain ⟨_, hA0, hA1, hA2, hA3⟩ := id hSA)
            | (refine step_ap1 rfl (.tmp 56) (.tmp 58) rfl (w3.heap.size + 1) (by rfl) a' k cp g q t n (by rfl) w3.heap.size (own0bd _ _ _ (Nat.le_refl _)) (KO.out _ (by first | with_reducible exact KD.out _ hS0 | with_reducible exact KAD.out _ _ (KD.out _ hS0) | with_reducible exact KAD.out _ _ (KAD.out _ _ (KD.out _ hS0)))) hkL (KZ.out _ (by first | with_reducible exact KD.out _ hS0 | with_reducible exact KAD.out _ _ (KD.out _ hS0) | with_reducible exact KAD.out _ _ (KAD.out _ _ (KD.out _ hS0)))) ?_
               intro aA cA wA hOA hgA
               have hSA := KG.out _ _ _ (by first | with_reducible exact KD.out _ hS0 | with_reducible exact KAD.out _ _ (KD.out _ hS0) | with_reducible exact KAD.out _ _ (KAD.out _ _ (KD.out _ hS0))) hgA (fun y hy => by injection hy with hy; omega)
               obtain ⟨_, hA0, hA1, hA2, hA3⟩ := id hSA)
            | (refine step_ap2 rfl (.tmp 59) (.tmp 61) rfl aA k cA (by rfl) wA.heap.size (by rfl) q t n w3.heap.size (hOA.alloc _) (by rw [← EQV.out]; exact heap_new wA _) hkL (KZ.out _ (by first | with_reducible exact hSA | with_reducible exact KA.out _ _ hSA)) ?_
               intro a2 c2 w4 hO4 hg4
               have hS4 := KG.out _ _ _ (by first | with_reducible exact hSA | with_reducible exact KA.out _ _ hSA) hg4 (own_base hOA)
               have hf4 := hS4.2.2.2.2
               have hX4 := hS4.1.cell0
               obtain ⟨vx, hvx⟩ := hX4)
            | (refine step_ap2 rfl (.tmp 59) (.tmp 61) rfl aA k cA (by rfl) (w3.heap.size + 1) (by rfl) q t n w3.heap.size hOA (by rw [← EQV.out]; exact rowB1 hgA) hkL (KZ.out _ (by first | with_reducible exact hSA | with_reducible exact KA.out _ _ hSA)) ?_
               intro a2 c2 w4 hO4 hg4
               have hS4 := KG.out _ _ _ (by first | with_reducible exact hSA | with_reducible exact KA.out _ _ hSA) hg4 (own_base hOA)
               have hf4 := hS4.2.2.2.2
               have hX4 := hS4.1.cell0
               obtain ⟨vx, hvx⟩ := hX4)
            | (refine step_ap2 rfl (.tmp 59) (.tmp 61) rfl aA k cA (by rfl) w3.heap.size (by rfl) q t n w3.heap.size hOA (by rw [← EQV.out]; exact rowB0 hgA) hkL (KZ.out _ (by first | with_reducible exact hSA | with_reducible exact KA.out _ _ hSA)) ?_
               intro a2 c2 w4 hO4 hg4
               have hS4 := KG.out _ _ _ (by first | with_reducible exact hSA | with_reducible exact KA.out _ _ hSA) hg4 (own_base hOA)
               have hf4 := hS4.2.2.2.2
               have hX4 := hS4.1.cell0
               obtain ⟨vx, hvx⟩ := hX4))
        all_goals go_wp2_with fail
        all_goals go_meet
        all_goals exact XD.out _ _ _ hS4 hO4
      case rest =>
      obtain ⟨a2, g2, c2, HK2, HX2⟩ := hcut
      have x0 := cell_of_row wc _ 0 _ _ _ HX2.out.row; have x1 := cell_of_row wc _ 1 _ _ _ HX2.out.row; have x2 := cell_of_row wc _ 2 _ _ _ HX2.out.row
      simp only [List.getElem?_toArray, List.getElem?_cons_zero, List.getElem?_cons_succ] at x0 x1 x2
      have hEn : E1 ≤ (Os.st q t n (k + 1)).exp := Int.le_trans HE2.out (Os.exp_step q t n k hkL OK0.out (by have := HC.out k hlt; exact this.2.2.2.2.1))
      have xb := OKN.out.exp_bd
      have HSM := Lib.hid (same8_any w1.heap.size a2 g2 (k + 1) c2 q t n E1 C1 wc HX2.out.oat (by omega) ⟨e1, by omega⟩ ⟨d1, by omega⟩ HK2.out.hold (Ys.ok q t n (k + 1) E1 C1 OKN.out ⟨e1, hEn⟩ ⟨d1, by omega⟩))
      have HEN := Lib.hid hEn; clear hEn xb
      go_wp2_with fail
      refine HSM.out.mono ?_
      rintro e w9 ⟨rfl, hb9⟩
      have K9 := Lib.hid (HK2.out.new2 (below_grown hb9))
      have X9 : Hid (Xb w9 (w1.heap.size + 1) a2 g2 (k + 1) c2 q t n E1 C1) := Lib.hid (HX2.out.grown (below_grown hb9) (by intro h; cases h) (by intro y h; cases h))
      clear hb9 x0 x1 x2 HSM
      go_wp2_with fail
      go_roundw
      case rel => exact ⟨k + 1, E1, C1, a2, g2, c2, by omega, by go_num, K9, X9, e1, HEN, d1, by omega⟩
      case measure => simp [intOf]; omega
    · obtain rfl : k = len := by omega
      have x0 := cell_of_row wr _ 0 _ _ _ HX.out.row; have x1 := cell_of_row wr _ 1 _ _ _ HX.out.row; have x2 := cell_of_row wr _ 2 _ _ _ HX.out.row
      simp only [List.getElem?_toArray, List.getElem?_cons_zero, List.getElem?_cons_succ] at x0 x1 x2
      have HSM := Lib.hid (same8_any w1.heap.size a' g k cp q t n E C wr HX.out.oat (by omega) ⟨e0, hE4⟩ ⟨c0', by omega⟩ HK.out.hold okY.out)
      go_wp2_with fail
      refine HSM.out.mono ?_
      rintro e w9 ⟨rfl, hb9⟩
      have HB9 := Lib.hid (HK.out.bel.trans (hb9.mono HK.out.bel.size)); clear hb9
      go_wp2
      go_ret
      exact ⟨rfl, HB9.out⟩
end Go.Proofs.Ytpannhbmelcpfab


/-
  red.Older.
-/
import Derived.Test.YtfmabpddacfbcaaRedPrim
import Derived.Test.YtfmabpddacfbcaaLeaf
import Derived.Deep.RegionHeld3
namespace Go.Proofs.Ytfmabpddacfbcaa
open Go.RowKit Go.Shelf
set_option linter.unusedVariables false
set_option linter.unusedSimpArgs false
/-- A packet of Older, its cells. -/
def oc1 (pt ts ss : Int) (a : Option Addr) (n c : Nat) : List Value := [.bool false, .int .i64 pt, .int .u16 0, .int .u32 ts, .int .u32 ss, .slice none 0 0, .bool false, .int .u16 0, .slice none 0 0, .slice a n c, .slice none 0 0]
def ocells (pt of : Nat → Int) (T ss : Int) (A : Nat → Option Addr) (C : Nat → Nat) (ds : Nat → List Int) : Nat → List Value
  | 0 => []
  | i + 1 => ocells pt of T ss A C ds i ++ oc1 (pt i) (Ser.add32 T (-(of i))) ss (A i) (ds i).length (C i)
theorem ocells_len (pt of : Nat → Int) (T ss : Int) (A : Nat → Option Addr) (C : Nat → Nat) (ds : Nat → List Int) : ∀ i, (ocells pt of T ss A C ds i).length = i * 11
  | 0 => rfl
  | i + 1 => by simp [ocells, oc1, ocells_len pt of T ss A C ds i]; omega
theorem ocells_at (pt of : Nat → Int) (T ss : Int) (A : Nat → Option Addr) (C : Nat → Nat) (ds : Nat → List Int) : ∀ K i j, i < K → j < 11 → (ocells pt of T ss A C ds K)[i * 11 + j]? = (oc1 (pt i) (Ser.add32 T (-(of i))) ss (A i) (ds i).length (C i))[j]?
  | 0, i, j, h, _ => by omega
  | K + 1, i, j, h, hj => by
    have hl := ocells_len pt of T ss A C ds K
    by_cases e : i = K
    · subst e
      simp only [ocells]
      rw [List.getElem?_append_right (by omega), hl, Nat.add_sub_cancel_left]
    · simp only [ocells]
      rw [List.getElem?_append_left (by rw [hl]; omega)]
      exact ocells_at pt of T ss A C ds K i j (by omega) hj
theorem info_pkt : (Try.prog.info? 36).map (fun i => (i.zero, i.size, i.bytes)) = some (some (Value.agg #[.bool false, .int .i64 0, .int .u16 0, .int .u32 0, .int .u32 0, .slice none 0 0, .bool false, .int .u16 0, .slice none 0 0, .slice none 0 0, .slice none 0 0]), 11, 136) := by kernel_rfl
theorem append_pkt (w : World) (ty : TypeId) (base : Nat) (a : Option Addr) (i c : Nat) (xs : List Value) (h : w.ownsRow base 36 11 (.slice a i c) i xs) (pt ts ss : Int) (pa : Option Addr) (pn pc : Nat) (hi : i ≤ 1000) (hbase : base ≤ w.heap.size) :
    ∃ a2 c2 w2, (Builtin.append_ #[46, 46] ty #[.slice a i c, .slice (some ⟨w.heap.size, 0, none⟩) 1 1]).run Try.prog (w.alloc (.cells (oc1 pt ts ss pa pn pc).toArray 36)) = .ok (.slice a2 (i + 1) c2) w2 ∧
      w2.ownsRow base 36 11 (.slice a2 (i + 1) c2) (i + 1) (xs ++ oc1 pt ts ss pa pn pc) ∧ Below base w w2 ∧ (∀ k, k < w.heap.size → (∀ y, a = some y → y.block ≠ k) → w2.heap[k]? = w.heap[k]?) := by
  obtain ⟨i0, hi0, hz0, hz1, hz2⟩ := info_parts info_pkt
  have hnew : (w.alloc (.cells (oc1 pt ts ss pa pn pc).toArray 36)).heap[w.heap.size]? = some (.cells (oc1 pt ts ss pa pn pc).toArray 36 (0, 0)) := lit_new rfl
  have hsrc : ∀ j u, (oc1 pt ts ss pa pn pc)[j]? = some u → (w.alloc (.cells (oc1 pt ts ss pa pn pc).toArray 36)).cell? ((⟨w.heap.size, 0, none⟩ : Addr).add j) = some u := fun j u hu => by
    rw [show (Addr.add ⟨w.heap.size, 0, none⟩ j) = ⟨w.heap.size, j, none⟩ from by unfold Addr.add; split <;> simp_all, cell_of_row _ _ j _ _ _ hnew]
    simpa using hu
  obtain ⟨v', w2, hr, ho2, hg, hnil, hat⟩ := run_append_own_at (P := Try.prog) (w.alloc (.cells (oc1 pt ts ss pa pn pc).toArray 36)) base 46 ty 36 i0 _ 11 136 Try.underlying46 hi0 hz0 hz1 hz2 rfl (by decide) (.slice a i c) i _ (h.alloc _) ⟨w.heap.size, 0, none⟩ 1 1 (oc1 pt ts ss pa pn pc) rfl hsrc (by intro u hu; simp [oc1] at hu; rcases hu with rfl | rfl | rfl | rfl | rfl | rfl | rfl | rfl | rfl | rfl | rfl <;> rfl) (by unfold maxLen; omega) (by omega) (by simp; omega)
  have hv : ∃ a' c', v' = .slice a' (i + 1) c' := by
    rcases ho2.2 with ⟨rfl, e⟩ | ⟨g, cap, cur, rfl, _⟩
    · omega
    · exact ⟨_, _, rfl⟩
  obtain ⟨a', c', rfl⟩ := hv
  have eb : (Value.slice a i c).ownBlock = a.map (·.block) := by cases a <;> rfl
  rw [eb] at hg
  have hlt := h.lt
  rw [eb] at hlt
  have hB : Below w.heap.size w (w.alloc (.cells (oc1 pt ts ss pa pn pc).toArray 36)) := (Below.refl _ w).alloc (Nat.le_refl _) _
  refine ⟨a', c', w2, hr, ho2, (hB.mono hbase).grown hg (by simp; omega) (fun k e => (hlt k e).1), fun k hk hne => ?_⟩
  exact (hg.block k (by simp; omega) (fun e => by
    cases a with
    | none => cases e
    | some y => exact hne y rfl (by simpa using e.symm))).trans (hB.block k hk)
/-- What Older leaves: K packets in a row, their data in memory. -/
def OlOut (K : Nat) (l : List Int) (T ss : Int) (w : World) (e : Ending) (w' : World) : Prop :=
  ∃ ao co A C, e = .returned (.tuple #[.slice ao K co, .int .i64 0]) ∧ w'.ownsRow w.heap.size 36 11 (.slice ao K co) K (ocells (ppt l) (pof l) T ss A C (pdat l K) K) ∧ (∀ j, j < K → BAt w' (A j) (pdat l K j).length (pdat l K j) ∧ (pdat l K j).length ≤ C j) ∧ Below w.heap.size w w'
section
variable {N M pn pc : Nat} {q f ts ss : Int} {pa : Option Addr} {W W' : World}
theorem ol_same (h : (W.cell? ⟨N, 0, none⟩ = some (.int .i64 q) ∧ W.cell? ⟨N, 1, none⟩ = some (.int .i64 f) ∧ W.cell? ⟨N, 2, none⟩ = some (.slice pa pn pc) ∧ W.cell? ⟨M, 3, none⟩ = some (.int .u32 ts) ∧ W.cell? ⟨M, 4, none⟩ = some (.int .u32 ss))) (hb : ∀ k, k < W.heap.size → k = N ∨ k = M → W'.heap[k]? = W.heap[k]?) : (W'.cell? ⟨N, 0, none⟩ = some (.int .i64 q) ∧ W'.cell? ⟨N, 1, none⟩ = some (.int .i64 f) ∧ W'.cell? ⟨N, 2, none⟩ = some (.slice pa pn pc) ∧ W'.cell? ⟨M, 3, none⟩ = some (.int .u32 ts) ∧ W'.cell? ⟨M, 4, none⟩ = some (.int .u32 ss)) := by
  have hN := World.block_lt_of_cell? W _ h.1
  have hM := World.block_lt_of_cell? W _ h.2.2.2.1
  have e : ∀ i, W'.cell? ⟨N, i, none⟩ = W.cell? ⟨N, i, none⟩ := fun i => World.cell?_of_block (hb N hN (.inl rfl))
  have e' : ∀ i, W'.cell? ⟨M, i, none⟩ = W.cell? ⟨M, i, none⟩ := fun i => World.cell?_of_block (hb M hM (.inr rfl))
  exact ⟨(e 0).trans h.1, (e 1).trans h.2.1, (e 2).trans h.2.2.1, (e' 3).trans h.2.2.2.1, (e' 4).trans h.2.2.2.2⟩
theorem ol_drew (h : (W.cell? ⟨N, 0, none⟩ = some (.int .i64 q) ∧ W.cell? ⟨N, 1, none⟩ = some (.int .i64 f) ∧ W.cell? ⟨N, 2, none⟩ = some (.slice pa pn pc) ∧ W.cell? ⟨M, 3, none⟩ = some (.int .u32 ts) ∧ W.cell? ⟨M, 4, none⟩ = some (.int .u32 ss))) : (W.drew.cell? ⟨N, 0, none⟩ = some (.int .i64 q) ∧ W.drew.cell? ⟨N, 1, none⟩ = some (.int .i64 f) ∧ W.drew.cell? ⟨N, 2, none⟩ = some (.slice pa pn pc) ∧ W.drew.cell? ⟨M, 3, none⟩ = some (.int .u32 ts) ∧ W.drew.cell? ⟨M, 4, none⟩ = some (.int .u32 ss)) := ol_same h fun k _ _ => rfl
theorem ol_alloc (h : (W.cell? ⟨N, 0, none⟩ = some (.int .i64 q) ∧ W.cell? ⟨N, 1, none⟩ = some (.int .i64 f) ∧ W.cell? ⟨N, 2, none⟩ = some (.slice pa pn pc) ∧ W.cell? ⟨M, 3, none⟩ = some (.int .u32 ts) ∧ W.cell? ⟨M, 4, none⟩ = some (.int .u32 ss))) (o : Obj) : ((W.alloc o).cell? ⟨N, 0, none⟩ = some (.int .i64 q) ∧ (W.alloc o).cell? ⟨N, 1, none⟩ = some (.int .i64 f) ∧ (W.alloc o).cell? ⟨N, 2, none⟩ = some (.slice pa pn pc) ∧ (W.alloc o).cell? ⟨M, 3, none⟩ = some (.int .u32 ts) ∧ (W.alloc o).cell? ⟨M, 4, none⟩ = some (.int .u32 ss)) := ol_same h fun k hk _ => heap_alloc_old W o hk
theorem ol_allocd (h : (W.drew.cell? ⟨N, 0, none⟩ = some (.int .i64 q) ∧ W.drew.cell? ⟨N, 1, none⟩ = some (.int .i64 f) ∧ W.drew.cell? ⟨N, 2, none⟩ = some (.slice pa pn pc) ∧ W.drew.cell? ⟨M, 3, none⟩ = some (.int .u32 ts) ∧ W.drew.cell? ⟨M, 4, none⟩ = some (.int .u32 ss))) (o : Obj) : ((W.alloc o).drew.cell? ⟨N, 0, none⟩ = some (.int .i64 q) ∧ (W.alloc o).drew.cell? ⟨N, 1, none⟩ = some (.int .i64 f) ∧ (W.alloc o).drew.cell? ⟨N, 2, none⟩ = some (.slice pa pn pc) ∧ (W.alloc o).drew.cell? ⟨M, 3, none⟩ = some (.int .u32 ts) ∧ (W.alloc o).drew.cell? ⟨M, 4, none⟩ = some (.int .u32 ss)) := ol_same (W := W.drew) h fun k hk _ => heap_alloc_old W o hk
end
set_option maxHeartbeats 2000000 in
set_option maxRecDepth 100000 in
theorem older_ok (p : Pk) (s : Pl) (K : Nat) (w : World) (hp : PkAt w p s) (hs : Sm s) (hcp : s.np ≤ s.cp) (hK : Good p.payload K) (hob : ∀ i, i ≤ K → 0 ≤ pof p.payload i ∧ pof p.payload i ≤ 16383) :
    Calls Try.prog 16 #[.agg (pkc p s)] w (OlOut K p.payload p.ts p.ssrc w) := by
  have hB0 : Below w.heap.size w (w.alloc (.cells (pkc p s) 36)) := (Below.refl _ w).alloc (Nat.le_refl _) _
  have HPA := Lib.hid (rparse_ok s.ap s.np s.cp p.payload K _ (hp.pay.below hB0) hcp hK hs.2.2.1)
  have hK8 := hK.hd.lt
  have hr0 : (w.alloc (.cells (pkc p s) 36)).heap[w.heap.size]? = some (.cells (pkc p s) 36 (0, 0)) := lit_new rfl
  obtain ⟨w0, hw0⟩ : ∃ w0, w.alloc (.cells (pkc p s) 36) = w0 := ⟨_, rfl⟩
  have hz0 : w0.heap.size = w.heap.size + 1 := by rw [← hw0]; simp
  rw [hw0] at hB0 HPA hr0
  have HW0 := Lib.hid hw0; have HOB := Lib.hid hob
  clear hw0 hp hs hcp hK hob
  obtain ⟨m, pt, sq, ts, ss, cs, h, pr, ex, py, pd⟩ := p
  obtain ⟨ac, nc, cc, ae, ne, ce, ap, np, cp, ad, nd, cd⟩ := s
  simp only [pkc] at *
  have c9 : w0.cell? ⟨w.heap.size, 9, none⟩ = some (.slice ap np cp) := by rw [cell_of_row w0 _ 9 _ _ _ hr0]; rfl
  go_enter Try.func16, Try.ntmps16
  go_upto_region 1 with (fail)
  rw [HW0.out]
  go_wp2_with fail
  refine (HPA.out).mono ?_
  rintro e w1 ⟨ab, cb, rfl, hBR, hB1⟩
  obtain ⟨A, C, ⟨b, o, hr⟩, hkc, hbi⟩ := hBR.at
  obtain ⟨rfl, _⟩ := hr 0 (by omega)
  have hr1 := (hB1.block _ (by omega)).trans hr0
  have hl1 := hB0.trans (hB1.mono hB0.size)
  have HR := Lib.hid hr; have HR1 := Lib.hid hr1; have HL1 := Lib.hid hl1
  have hz1 : w.heap.size < w1.heap.size := by have := hB1.size; omega
  clear hBR hB1 hr hbi HPA hr0 hr1 hl1 c9 hB0
  have hsub : IntKind.i64.wrap (((K + 1 : Nat) : Int) - 1) = (K : Int) := by rw [IntKind.wrap_i64]; omega
  have hsub2 : ((K : Int) + 1) - 1 = (K : Int) := by omega
  have hi0 : (0 : Int) ≤ (K : Int) := by omega
  have hi1 : (K : Int) ≤ (cb : Int) := by omega
  have hi2 : (K : Int) ≤ (K : Int) + 1 := by omega
  have HT : Hid (∀ W, Below w1.heap.size w1 W → W.cell? ⟨w.heap.size, 3, none⟩ = some (.int .u32 ts) ∧ W.cell? ⟨w.heap.size, 4, none⟩ = some (.int .u32 ss)) := Lib.hid fun W hB => by
    have := (hB.block _ hz1).trans HR1.out
    exact ⟨by rw [cell_of_row W _ 3 _ _ _ this]; rfl, by rw [cell_of_row W _ 4 _ _ _ this]; rfl⟩
  go_upto_region 6 with (fail)
  go_loopw [6, 24] (fun v iv wr => ∃ (i : Nat) (ao : Option Addr) (co : Nat), i ≤ K ∧ v = .slice ao i co ∧ iv = .int .i64 i ∧ Hid (wr.ownsRow w1.heap.size 36 11 (.slice ao i co) i (ocells (ppt py) (pof py) ts ss A C (pdat py K) i)) ∧ Hid (Below w1.heap.size w1 wr)) (fun _ iv _ => K - (intOf iv).toNat)
  case atStart => exact ⟨0, none, 0, Nat.zero_le _, rfl, rfl, Lib.hid (World.ownsRow_nil _ _ _ _), Lib.hid (Below.refl _ _)⟩
  case round =>
    obtain ⟨i, ao, co, hi, rfl, rfl, HO, HB⟩ := hrel
    by_cases hlt : i < K
    · have hiz : (i : Int) < (K : Int) := by omega
      have hii0 : (0 : Int) ≤ (i : Int) := by omega
      obtain ⟨_, hbl, g0, g1, g2, _⟩ := HR.out i (by omega)
      have g0 : wr.cell? ⟨b, o + i * 3, none⟩ = some (.int .i64 (ppt py i)) := (HB.out.cell (p := ⟨b, o + i * 3, none⟩) hbl).trans g0
      have g1 : wr.cell? ⟨b, o + i * 3 + 1, none⟩ = some (.int .i64 (pof py i)) := (HB.out.cell (p := ⟨b, o + i * 3 + 1, none⟩) hbl).trans g1
      have g2 : wr.cell? ⟨b, o + i * 3 + 2, none⟩ = some (.slice (A i) (pdat py K i).length (C i)) := (HB.out.cell (p := ⟨b, o + i * 3 + 2, none⟩) hbl).trans g2
      obtain ⟨t3, t4⟩ := HT.out wr HB.out
      have hob := HOB.out i (by omega)
      have HBZ := HB.out.size
      obtain ⟨wB, hwB⟩ : ∃ wB, wr.alloc (.cells #[.int .i64 (ppt py i), .int .i64 (pof py i), .slice (A i) (pdat py K i).length (C i)] 50) = wB := ⟨_, rfl⟩
      have hzB : wB.heap.size = wr.heap.size + 1 := by rw [← hwB]; simp
      have hBB : Below w1.heap.size w1 wB := by rw [← hwB]; exact HB.out.alloc HB.out.size _
      have hrB : wB.heap[wr.heap.size]? = some (.cells #[.int .i64 (ppt py i), .int .i64 (pof py i), .slice (A i) (pdat py K i).length (C i)] 50 (0, 0)) := by rw [← hwB]; exact lit_new rfl
      have hoB : wB.ownsRow w1.heap.size 36 11 (.slice ao i co) i (ocells (ppt py) (pof py) ts ss A C (pdat py K) i) := by rw [← hwB]; exact HO.out.alloc _
      have hlt2 := HO.out.lt
      have eb : (Value.slice ao i co).ownBlock = ao.map (·.block) := by cases ao <;> rfl
      rw [eb] at hlt2
      obtain ⟨a4, c4, w4, hrun, ho4, hb4, hk4⟩ := append_pkt wB.drew 46 w1.heap.size ao i co _ hoB (ppt py i) (Ser.add32 ts (-(pof py i))) ss (A i) (pdat py K i).length (C i) (by omega) (by show w1.heap.size ≤ wB.heap.size; omega)
      have hrun' : (Builtin.append_ #[46, 46] 46 #[.slice ao i co, .slice (some ⟨wr.heap.size + 1, 0, none⟩) 1 1]).run Try.prog ((wB.alloc (.cells (oc1 (ppt py i) (Ser.add32 ts (-(pof py i))) ss (A i) (pdat py K i).length (C i)).toArray 36)).drew) = .ok (.slice a4 (i + 1) c4) w4 := by
        have h : (Builtin.append_ #[46, 46] 46 #[.slice ao i co, .slice (some ⟨wB.heap.size, 0, none⟩) 1 1]).run Try.prog ((wB.alloc (.cells (oc1 (ppt py i) (Ser.add32 ts (-(pof py i))) ss (A i) (pdat py K i).length (C i)).toArray 36)).drew) = .ok (.slice a4 (i + 1) c4) w4 := hrun
        rwa [hzB] at h
      have HN : Hid (Below w1.heap.size w1 w4) := Lib.hid (hBB.drew.trans hb4)
      have HO4 := Lib.hid (show w4.ownsRow w1.heap.size 36 11 (.slice a4 (i + 1) c4) (i + 1) (ocells (ppt py) (pof py) ts ss A C (pdat py K) (i + 1)) from ho4)
      have hsame : ∀ k, k < wB.heap.size → k = wr.heap.size ∨ k = w.heap.size → w4.heap[k]? = wB.heap[k]? := fun k hk hor => hk4 k hk (fun y hy => by
        subst hy
        have := hlt2 y.block rfl
        omega)
      obtain ⟨u3, u4⟩ := HT.out wB hBB
      have k0 : wB.cell? ⟨wr.heap.size, 0, none⟩ = some (.int .i64 (ppt py i)) := by rw [cell_of_row wB _ 0 _ _ _ hrB]; rfl
      have k1 : wB.cell? ⟨wr.heap.size, 1, none⟩ = some (.int .i64 (pof py i)) := by rw [cell_of_row wB _ 1 _ _ _ hrB]; rfl
      have k2 : wB.cell? ⟨wr.heap.size, 2, none⟩ = some (.slice (A i) (pdat py K i).length (C i)) := by rw [cell_of_row wB _ 2 _ _ _ hrB]; rfl
      have hS0 := (show _ ∧ _ ∧ _ ∧ _ ∧ _ from ⟨k0, k1, k2, u3, u4⟩)
      have hS4 := ol_same hS0 hsame
      have HW := Lib.hid hwB
      clear HO HB hwB hBB hrB hoB hlt2 eb ho4 hb4 hk4 hsame u3 u4 k0 k1 k2 hrun HT
      unfold oc1 at hrun'
      have hn1 : wrap64 (-(pof py i)) = -(pof py i) := w64_in _ (by omega) (by omega)
      have hn2 : IntKind.i64.wrap (-(pof py i)) = -(pof py i) := by rw [IntKind.wrap_i64]; omega
      generalize ppt py i = q at *
      generalize pof py i = f at *
      generalize (pdat py K i).length = z at *
      generalize hT : Ser.add32 ts (-f) = T at *
      have HADD : Hid (∀ W, Calls Try.prog 27 #[.int .u32 ts, .int .i64 (-f)] W fun e w' => e = .returned (.int .u32 T) ∧ W = w') := Lib.hid fun W => by rw [← hT]; exact add32_any ts (-f) W
      have HRUN := Lib.hid hrun'
      clear hT hrun' hbl
      go_upto_region 8 with (fail)
      rw [HW.out]
      clear g0 g1 g2 t3 t4
      go_region_held3 (fun W => W.cell? ⟨wr.heap.size, 0, none⟩ = some (.int .i64 q) ∧ W.cell? ⟨wr.heap.size, 1, none⟩ = some (.int .i64 f) ∧ W.cell? ⟨wr.heap.size, 2, none⟩ = some (.slice (A i) z (C i)) ∧ W.cell? ⟨w.heap.size, 3, none⟩ = some (.int .u32 ts) ∧ W.cell? ⟨w.heap.size, 4, none⟩ = some (.int .u32 ss))
        (first | with_reducible assumption | with_reducible exact ol_drew (by with_reducible assumption) | with_reducible exact ol_allocd (by with_reducible assumption) _ | with_reducible exact ol_allocd (ol_drew (by with_reducible assumption)) _ | with_reducible exact ol_alloc (by with_reducible assumption) _)
        (first
          | (go_at_call 27; refine (HADD.out _).mono ?_; rintro e _ ⟨rfl, rfl⟩)
          | (refine step_append_run rfl (.tmp 28) (.tmp 42) 46 46 rfl (.slice ao i co) (.slice (some ⟨wr.heap.size + 1, 0, none⟩) 1 1) (by rfl) (by first | rfl | (simp only [Act.eval, Act.put]; rw [← hzB]; rfl)) _ _ HRUN.out ?_))
      clear hS0 hS4 HRUN HADD hn1 hn2
      go_wp2_with fail
      go_roundw
      case rel => exact ⟨i + 1, a4, c4, by omega, rfl, by go_num, HO4, HN⟩
      case measure => simp [intOf]; omega
    · obtain rfl : i = K := by omega
      have HF : Hid (OlOut i py ts ss w (.returned (.tuple #[.slice ao i co, .int .i64 0])) wr) := Lib.hid ⟨ao, co, A, C, rfl, by
          have := HO.out
          refine ⟨this.1, ?_⟩
          rcases this.2 with h' | ⟨g, cap, cur, e, hb', rest⟩
          · exact .inl h'
          · exact .inr ⟨g, cap, cur, e, by omega, rest⟩, fun j hj => by
          obtain ⟨_, _, _, _, _, h6, h7⟩ := HR.out j (by omega)
          exact ⟨h6.below HB.out, h7⟩, HL1.out.trans (HB.out.mono HL1.out.size)⟩
      clear HO HB
      go_wp2_with fail
      refine bodyPost_ret (v := .tuple #[.slice ao i co, .int .i64 0]) (by simp [results, Try.results16, go_sem]) rfl HF.out
end Go.Proofs.Ytfmabpddacfbcaa

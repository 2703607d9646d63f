
/-
  confluxref08: held, highest.
-/
import Derived.Test.YtpannhbmelcpfabRepWide
namespace Go.Proofs.Ytpannhbmelcpfab
open Go.RowKit
set_option linter.unusedVariables false
theorem held_any (n : Int) (w : World) : Calls Try.prog 89 #[.int .i64 n] w fun e w' => e = .returned (.int .i64 (Rep.clampT n)) ∧ w = w' := by
  go_enter Try.func89, Try.ntmps89
  go_wp2
  all_goals go_ret
  all_goals (refine ⟨ret_int ?_, rfl⟩; unfold Rep.clampT; omega)
/-- m packets in memory, in block g. -/
structure OAt (W : World) (a : Option Addr) (g m : Nat) (q t n : Nat → Int) : Prop where
  at' : 0 < m → a = some ⟨g, 0, none⟩
  lt : 0 < m → g < W.heap.size
  seq : ∀ i, i < m → W.cell? ⟨g, i * 3, none⟩ = some (.int .u16 (q i))
  ts : ∀ i, i < m → W.cell? ⟨g, i * 3 + 1, none⟩ = some (.int .u32 (t i))
  now : ∀ i, i < m → W.cell? ⟨g, i * 3 + 2, none⟩ = some (.int .i64 (n i))
  rq : ∀ i, i < m → (Lit.int .u16 (q i)).wf = true
  rt : ∀ i, i < m → 0 ≤ t i ∧ t i < 4294967296
theorem OAt.below {W W' : World} {a : Option Addr} {g m : Nat} {q t n : Nat → Int} (h : OAt W a g m q t n) (hb : Below W.heap.size W W') : OAt W' a g m q t n where
  at' := h.at'
  lt := fun h0 => Nat.lt_of_lt_of_le (h.lt h0) hb.size
  seq := fun i hi => (hb.cell (p := ⟨g, i * 3, none⟩) (h.lt (by omega))).trans (h.seq i hi)
  ts := fun i hi => (hb.cell (p := ⟨g, i * 3 + 1, none⟩) (h.lt (by omega))).trans (h.ts i hi)
  now := fun i hi => (hb.cell (p := ⟨g, i * 3 + 2, none⟩) (h.lt (by omega))).trans (h.now i hi)
  rq := h.rq
  rt := h.rt
def Os.qs (q : Nat → Int) : Nat → List Int
  | 0 => []
  | k + 1 => Os.qs q k ++ [q k]
theorem Os.qs_len (q : Nat → Int) (k : Nat) : (Os.qs q k).length = k := by
  induction k with
  | zero => rfl
  | succ k ih => simp [Os.qs, ih]
theorem Os.qs_get (q : Nat → Int) (k i : Nat) (h : i < k) : (Os.qs q k)[i]? = some (q i) := by
  induction k with
  | zero => omega
  | succ k ih =>
    simp only [Os.qs]
    by_cases e : i < k
    · rw [List.getElem?_append_left (by rw [Os.qs_len]; exact e)]; exact ih e
    · obtain rfl : i = k := by omega
      rw [List.getElem?_append_right (by rw [Os.qs_len]; exact Nat.le_refl _), Os.qs_len]; simp
theorem Os.qs_getD (q : Nat → Int) (k i : Nat) (h : i < k) : (Os.qs q k).getD i 0 = q i := by
  rw [List.getD_eq_getElem?_getD, Os.qs_get q k i h]; rfl
theorem Os.h_eq (q t n : Nat → Int) (m k : Nat) (hk : k ≤ m) : Wides.hs (Os.qs q m) k = (Os.st q t n k).h := by
  induction k with
  | zero => rfl
  | succ k ih =>
    show Ser.high (Wides.hs (Os.qs q m) k) ((Os.qs q m).getD k 0) = Ser.high (Os.st q t n k).h (q k)
    rw [ih (by omega), Os.qs_getD q m k (by omega)]
theorem Os.f_eq (q t n : Nat → Int) (k : Nat) (hk : 0 < k) : (Os.st q t n k).f = Ser.extend 0 (q 0) := by
  induction k with
  | zero => omega
  | succ k ih =>
    show (if (Os.st q t n k).r = 0 then Ser.extend (Os.st q t n k).h (q k) else (Os.st q t n k).f) = _
    rw [Os.r]
    by_cases e : k = 0
    · subst e; rfl
    · rw [if_neg (by omega)]; exact ih (by omega)
theorem Try.infoU16 : (Try.prog.info? 69).map (fun i => (i.zero, i.size, i.bytes)) = some (some (.int .u16 0), 1, 2) := by kernel_rfl
/-- What highest gives: the first number and the highest one. -/
def HiPost (q t n : Nat → Int) (m : Nat) (w : World) (e : Ending) (w' : World) : Prop :=
  e = .returned (.tuple #[.int .i64 (Os.st q t n m).f, .int .i64 (Os.st q t n m).h]) ∧ Below w.heap.size w w'
set_option maxRecDepth 100000 in
set_option maxHeartbeats 400000 in
theorem refhighest_any (a : Option Addr) (g m cap : Nat) (q t n : Nat → Int) (E C : Int) (w : World) (H : OAt w a g m q t n) (hm : m ≤ 60) :
    Calls Try.prog 88 #[.agg #[.slice a m cap, .int .i64 E, .int .i64 C]] w (HiPost q t n m w) := by
  obtain ⟨i0, hi, hz0, hz1, hz2⟩ := info_parts Try.infoU16
  have HI := Lib.hid hi; have HZ0 := Lib.hid hz0; have HZ1 := Lib.hid hz1; have HZ2 := Lib.hid hz2
  clear hi hz0 hz1 hz2
  have HH := Lib.hid H; clear H
  go_enter Try.func88, Try.ntmps88
  go_wp2
  go_loopw [4, 5] (fun v i wr => ∃ k : Nat, k ≤ m ∧ i = .int .i64 k ∧ Hid (wr.ownsRow (w.heap.size + 1) 69 1 v k ((Os.qs q k).map (Value.int .u16))) ∧ Hid (Below w.heap.size w wr) ∧ Hid (wr.cell? ⟨w.heap.size, 0, none⟩ = some (.slice a m cap)) ∧ w.heap.size < wr.heap.size) (fun _ i _ => m - (intOf i).toNat)
  case atStart =>
    refine ⟨0, Nat.zero_le _, rfl, Lib.hid ?_, Lib.hid (((Below.refl _ _).alloc (Nat.le_refl _) _).alloc (by simp) _), Lib.hid ?_, by simp; omega⟩
    · have : ((w.alloc (.cells #[.slice a m cap, .int .i64 E, .int .i64 C] 68)).alloc (.cells #[] 69)).ownsRow (w.alloc (.cells #[.slice a m cap, .int .i64 E, .int .i64 C] 68)).heap.size 69 1 (.slice (some ⟨(w.alloc (.cells #[.slice a m cap, .int .i64 E, .int .i64 C] 68)).heap.size, 0, none⟩) 0 0) 0 [] := World.ownsRow_made _ _ 0 (Nat.le_refl _) (by decide) rfl
      simpa [Os.qs] using this
    · rw [cell_of_row _ w.heap.size 0 #[.slice a m cap, .int .i64 E, .int .i64 C] 68 _ ((Below.heap_alloc _ _ _ (by simp)).trans (heap_new w _))]; rfl
  case round =>
    obtain ⟨k, hk, rfl, HO, HBk, HX, hsz⟩ := hrel
    have hx := HX.out
    by_cases hlt : k < m
    · have hg := HH.out.lt (by omega)
      have c0 : wr.cell? ⟨g, k * 3, none⟩ = some (.int .u16 (q k)) := (HBk.out.cell (p := ⟨g, k * 3, none⟩) hg).trans (HH.out.seq k hlt)
      obtain rfl := HH.out.at' (by omega)
      have hV : Os.qs q (k + 1) = Os.qs q k ++ [q k] := rfl
      have HV := Lib.hid hV; clear hV
      generalize q k = z at *
      go_wp2_with (at_builtin; refine wpList_append_own _ rfl _ _ 175 rfl (w.heap.size + 1) 69 i0 (.int .u16 0) 1 2 Try.underlying175 HI.out HZ0.out HZ1.out HZ2.out rfl (by decide) _ _ _ rfl (HO.out.alloc _) ⟨wr.heap.size, 0, none⟩ 1 1 [.int .u16 z] rfl rfl (cell_one_new _ _ _) (by intro u hu; simp at hu; subst hu; rfl) (by unfold maxLen; omega) (by omega) (by simp; omega) ?_; intro v' w1 hown' hgrow _)
      have hO1 : Hid (w1.ownsRow (w.heap.size + 1) 69 1 v' (k + 1) ((Os.qs q (k + 1)).map (Value.int .u16))) := by
        show World.ownsRow _ _ _ _ _ _ _
        rw [HV.out, List.map_append]; exact hown'
      have hB1 : Hid (Below w.heap.size w w1) := Lib.hid ((HBk.out.alloc HBk.out.size _).grown hgrow (by simp; omega) (fun j hj => by have := (HO.out.lt j hj).1; omega))
      have hX1 : Hid (w1.cell? ⟨w.heap.size, 0, none⟩ = some (.slice (some ⟨g, 0, none⟩) m cap)) := Lib.hid (by
        rw [World.cell?_of_block (hgrow.block w.heap.size (by simp; omega) (fun e => by have := (HO.out.lt w.heap.size e.symm).1; omega)), World.cell?_of_block (Below.heap_alloc _ _ _ hsz)]; exact HX.out)
      have hs1 : w.heap.size < w1.heap.size := by have := hgrow.size; simp at this; omega
      clear hown' hgrow HO HBk c0 hx HX
      go_wp2
      go_roundw
      case rel => exact ⟨k + 1, by omega, by go_num, hO1, hB1, hX1, hs1⟩
      case measure => simp [intOf]; omega
    · obtain rfl : k = m := by omega
      have hv : ∃ a' cp g', u4 = .slice a' k cp ∧ (0 < k → a' = some ⟨g', 0, none⟩) := by
        rcases HO.out.2 with ⟨e, hx⟩ | ⟨g', cp, cur, e, _⟩
        · obtain rfl : k = 0 := by simpa using hx
          exact ⟨none, 0, 0, e, fun h => by omega⟩
        · exact ⟨_, cp, g', e, fun _ => rfl⟩
      obtain ⟨a', cp, g', rfl, ha'⟩ := hv
      have hcs : ∀ i, i < k → g' < wr.heap.size ∧ wr.cell? ⟨g', 0 + i, none⟩ = some (.int .u16 ((Os.qs q k).getD i 0)) ∧ (Lit.int .u16 ((Os.qs q k).getD i 0)).wf = true := fun i hi => by
        obtain rfl := ha' (by omega)
        refine ⟨(HO.out.lt g' (by simp [Value.ownBlock])).2, ?_, ?_⟩
        · rw [Nat.zero_add, HO.out.cellAt i (by omega), List.getElem?_map, Os.qs_get q k i hi, Os.qs_getD q k i hi]; rfl
        · rw [Os.qs_getD q k i hi]; exact HH.out.rq i hi
      have HW := Lib.hid (refwide_any a' k cp (Os.qs q k) wr g' 0 (by omega) ha' hcs)
      clear hcs ha' HO
      go_wp2_with fail
      refine HW.out.mono ?_
      rintro e w3 ⟨v3, rfl, hO3, hB3⟩
      have HO3 := Lib.hid hO3
      have HB3 := Lib.hid (HBk.out.trans (hB3.mono HBk.out.size))
      have hle3 : wr.heap.size ≤ w3.heap.size := hB3.size
      clear hO3 hB3 HW HBk hx HX
      have hv3 : ∃ a3 c3 g3, v3 = .slice a3 k c3 ∧ (0 < k → a3 = some ⟨g3, 0, none⟩) := by
        rcases HO3.out.2 with ⟨e, hx⟩ | ⟨g', cp, cur, e, _⟩
        · obtain rfl : k = 0 := by simpa using hx
          exact ⟨none, 0, 0, e, fun h => by omega⟩
        · exact ⟨_, _, g', e, fun _ => rfl⟩
      obtain ⟨a3, c3, g3, rfl, ha3⟩ := hv3
      by_cases h0 : k = 0
      · subst h0
        go_wp2
        refine bodyPost_ret (results_tmp2 rfl _ _ _) rfl ?_
        exact ⟨rfl, HB3.out⟩
      obtain rfl := ha3 (by omega)
      have hk0 : ((k : Int) == 0) = false := by rw [beq_eq_false_iff_ne]; omega
      have HD : Hid (∀ i, i < k → w3.cell? ⟨g3, i, none⟩ = some (.int .i64 (Wides.val (Os.qs q k) i))) := Lib.hid fun i hi => by
        rw [HO3.out.cellAt i (by omega), List.getElem?_map, Wides.get _ k i hi]; rfl
      have d0 := HD.out 0 (by omega)
      clear HO3 ha3
      go_wp2
      obtain ⟨W4, e4⟩ : ∃ W, W = wr := ⟨_, rfl⟩
      subst e4
      have hbd := Lib.hid (Wides.hs_bd (Os.qs q k) k (fun i hi => by rw [Os.qs_getD q k i hi]; exact wf_u16 (HH.out.rq i hi)))
      go_loopw [7, 8] (fun o i wr => ∃ j : Nat, j ≤ k ∧ i = .int .i64 j ∧ o = .int .i64 (if j = 0 then Wides.val (Os.qs q k) 0 else Wides.hs (Os.qs q k) j) ∧ wr = w3) (fun _ i _ => k - (intOf i).toNat)
      case atStart => exact ⟨0, Nat.zero_le _, rfl, rfl, rfl⟩
      case round =>
        obtain ⟨j, hj, rfl, rfl, rfl⟩ := hrel
        by_cases hlt2 : j < k
        · have dj := HD.out j hlt2
          have hS : (if j + 1 = 0 then Wides.val (Os.qs q k) 0 else Wides.hs (Os.qs q k) (j + 1)) = if (if j = 0 then Wides.val (Os.qs q k) 0 else Wides.hs (Os.qs q k) j) < Wides.val (Os.qs q k) j then Wides.val (Os.qs q k) j else (if j = 0 then Wides.val (Os.qs q k) 0 else Wides.hs (Os.qs q k) j) := by
            rw [if_neg (by omega)]
            show Ser.high (Wides.hs (Os.qs q k) j) ((Os.qs q k).getD j 0) = _
            unfold Ser.high
            change (if Wides.hs (Os.qs q k) j < Wides.val (Os.qs q k) j then Wides.val (Os.qs q k) j else Wides.hs (Os.qs q k) j) = _
            by_cases e : j = 0
            · subst e
              have hv0 : Wides.val (Os.qs q k) 0 = 4294967296 + (Os.qs q k).getD 0 0 := by unfold Wides.val Ser.extend; rw [if_pos (show Wides.hs (Os.qs q k) 0 = 0 from rfl)]
              have hz := wf_u16 (HH.out.rq 0 (by omega))
              rw [Os.qs_getD q k 0 (by omega)] at hv0
              rw [show Wides.hs (Os.qs q k) 0 = 0 from rfl, if_pos rfl, if_pos (by omega), if_neg (by omega)]
            · rw [if_neg e]
          generalize (if j = 0 then Wides.val (Os.qs q k) 0 else Wides.hs (Os.qs q k) j) = o at *
          generalize Wides.val (Os.qs q k) j = V at *
          have HS := Lib.hid hS; clear hS
          by_cases hup : o < V
          · go_wp2
            go_roundw
            case rel => exact ⟨j + 1, by omega, by go_num, val_int (by rw [HS.out, if_pos hup]), trivial⟩
            case measure => simp [intOf]; omega
          · go_wp2
            go_roundw
            case rel => exact ⟨j + 1, by omega, by go_num, val_int (by rw [HS.out, if_neg hup]), trivial⟩
            case measure => simp [intOf]; omega
        · obtain rfl : j = k := by omega
          have ef : (Os.st q t n j).f = Wides.val (Os.qs q j) 0 := by
            rw [Os.f_eq q t n j (by omega)]
            show _ = Ser.extend 0 ((Os.qs q j).getD 0 0)
            rw [Os.qs_getD q j 0 (by omega)]
          have eh : (Os.st q t n j).h = Wides.hs (Os.qs q j) j := (Os.h_eq q t n j j (Nat.le_refl _)).symm
          have HEF := Lib.hid ef; have HEH := Lib.hid eh; clear ef eh
          rw [if_neg h0]
          go_wp2
          refine bodyPost_ret (results_tmp2 rfl _ _ _) rfl ?_
          exact ⟨by rw [HEF.out, HEH.out]; rfl, HB3.out⟩
end Go.Proofs.Ytpannhbmelcpfab

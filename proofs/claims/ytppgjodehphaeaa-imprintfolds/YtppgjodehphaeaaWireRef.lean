
/-
  The helpers of the references: confluxref01.Big, confluxref01.Join.
-/
import Derived.Test.YtppgjodehphaeaaWireAl
namespace Go.Proofs.Ytppgjodehphaeaa
open Go.RowKit Go.Shelf
set_option linter.unusedVariables false
theorem Big_succ (k : Nat) (x : Int) : Big (k + 1) x = [x / 256 ^ k % 256] ++ Big k x := by
  unfold Big
  rw [List.range_succ_eq_map, List.map_cons, List.map_map]
  simp only [Nat.add_sub_cancel, Nat.sub_zero, List.singleton_append, List.cons.injEq, true_and]
  apply List.map_congr_left
  intro j hj
  have := List.mem_range.1 hj
  simp only [Function.comp]
  congr 3
  omega
theorem Big_ok (k : Nat) (x : Int) : Str.Ok (Big k x) := fun i => by
  by_cases h : i < k
  · have : (Big k x).getD i 0 = x / 256 ^ (k - 1 - i) % 256 := by simp [Big, List.getD_eq_getElem?_getD, h]
    rw [this]; omega
  · rw [getD_out (by rw [Big_len]; omega)]; omega
theorem div_step (x : Int) (hx : 0 ≤ x) (i : Nat) : x / 256 ^ i / 256 = x / 256 ^ (i + 1) := by
  rw [Int.ediv_ediv_of_nonneg (Int.pow_nonneg (by decide)), Int.pow_succ]
theorem own_one (W : World) (base : Nat) (x : Int) (hx : 0 ≤ x ∧ x < 256) (hb : base ≤ W.heap.size) : Own (W.alloc (.cells #[.int .u8 x] 5)) base (some ⟨W.heap.size, 0, none⟩) 1 1 [x] :=
  ⟨⟨rfl, .inr ⟨W.heap.size, 1, #[.int .u8 x], rfl, hb, heap_alloc_new W _, Nat.le_refl _, by unfold maxLen; omega, rfl, rfl⟩⟩, fun i => by cases i with | zero => exact hx | succ i => simp⟩
set_option maxHeartbeats 1000000 in
set_option maxRecDepth 100000 in
theorem rbig_any (x : Int) (k : Nat) (w : World) (hx : 0 ≤ x) (hx' : x < 18446744073709551616) (hk : k ≤ 8) :
    Calls Try.prog 36 #[.int .u64 x, .int .i64 k] w (NewB k (Big k x) w) := by
  go_enter Try.func36, Try.ntmps36
  go_wp2
  go_loopw [0, 5, 6] (fun nv s i wr => ∃ (j : Nat) (y : Int) (a' : Option Addr) (c' : Nat), j ≤ k ∧ 0 ≤ y ∧ y < 18446744073709551616 ∧ nv = .int .u64 y ∧ i = .int .i64 j ∧ s = .slice a' j c' ∧ Hid (y = x / 256 ^ j ∧ Own wr w.heap.size a' j c' (Big j x) ∧ Below w.heap.size w wr)) (fun _ _ i _ => k - (intOf i).toNat)
  case atStart => exact ⟨0, x, _, _, Nat.zero_le _, hx, hx', rfl, rfl, rfl, Lib.hid ⟨by simp, own_nil w _ (Nat.le_refl _), (Below.refl _ w).alloc (Nat.le_refl _) _⟩⟩
  case round =>
    obtain ⟨j, y, a', c', hj, hy0, hy1, rfl, rfl, rfl, HW⟩ := hrel
    by_cases hlt : j < k
    · have hltz : (j : Int) < (k : Int) := by omega
      have hm : (0 : Int) ≤ y % 256 ∧ y % 256 < 256 := by omega
      have hu : IntKind.u8.wrap (y % 256) = y % 256 := by rw [show IntKind.u8.wrap (y % 256) = y % 256 % 256 by simp [IntKind.wrap, IntKind.bits, IntKind.signed]]; omega
      have hnx : [y % 256] ++ Big j x = Big (j + 1) x := by rw [Big_succ, HW.out.1]
      have hyn : y / 256 = x / 256 ^ (j + 1) := by rw [HW.out.1]; exact div_step x hx j
      have hyb : 0 ≤ y / 256 ∧ y / 256 < 18446744073709551616 := by omega
      obtain ⟨a5, c5, w5, hrun, hO5, hg5, hl5⟩ := append_bytes (wr.alloc (.cells #[.int .u8 (y % 256)] 5)) 22 w.heap.size (some ⟨wr.heap.size, 0, none⟩) 1 1 [y % 256] (own_one wr _ (y % 256) hm HW.out.2.2.size) a' j c' (Big j x) (HW.out.2.1.bat.below ((Below.refl _ wr).alloc (Nat.le_refl _) _)) (by omega) (by have := HW.out.2.2.size; simp; omega)
      have hB5 : Below w.heap.size w w5 := (HW.out.2.2.alloc HW.out.2.2.size _).grown hg5 (by have := HW.out.2.2.size; simp; omega) (fun q e => by cases e; exact HW.out.2.2.size)
      rw [hnx, Nat.add_comm 1 j] at hO5
      rw [Nat.add_comm 1 j] at hrun
      have HRUN := Lib.hid hrun; have HO5 := Lib.hid hO5; have HB5 := Lib.hid hB5; have HYN := Lib.hid hyn
      obtain ⟨m1, m2⟩ := hm
      obtain ⟨b1, b2⟩ := hyb
      clear hrun hO5 hg5 hl5 hB5 hnx hyn
      go_wp2_with (at_builtin; refine Lib.wpList_append_run _ rfl (.tmp 16) (.tmp 17) 22 22 rfl (.slice (some ⟨wr.heap.size, 0, none⟩) 1 1) (.slice a' j c') (by rfl) (by rfl) _ _ HRUN.out ?_)
      go_roundw
      case rel => exact ⟨j + 1, y / 256, a5, c5, by omega, b1, b2, rfl, by go_num, rfl, Lib.hid ⟨HYN.out, HO5.out, HB5.out⟩⟩
      case measure => simp [intOf]; omega
    · have hltz : ¬ (j : Int) < (k : Int) := by omega
      obtain rfl : j = k := by omega
      go_wp2
      go_ret
      exact ⟨_, _, rfl, HW.out.2.1, HW.out.2.2⟩
theorem flat_take (ls : List (List Int)) (k : Nat) (h : k < ls.length) : (ls.take (k + 1)).flatten = (ls.take k).flatten ++ ls.getD k [] := by
  have e : ls.take (k + 1) = ls.take k ++ [ls.getD k []] := by
    rw [List.take_add_one, List.getElem?_eq_getElem h, List.getD_eq_getElem?_getD, List.getElem?_eq_getElem h]; rfl
  rw [e]; simp
set_option maxHeartbeats 1000000 in
set_option maxRecDepth 100000 in
theorem join_any (a : Option Addr) (len c : Nat) (ls : List (List Int)) (w : World) (h : RAt w a len ls) (hlen : len ≤ 1000) (hs : ∀ l ∈ ls, l.length ≤ 100000000) (N : Nat) (hN : ls.flatten.length = N) :
    Calls Try.prog 35 #[.slice a len c] w (NewB N ls.flatten w) := by
  obtain ⟨b, o, av, nv, cv, hr⟩ := h.row
  have hc := h.count
  have HR := Lib.hid hr; have HC := Lib.hid hc; have HS := Lib.hid hs; have HN := Lib.hid hN; clear hr hc h hs hN
  go_enter Try.func35, Try.ntmps35
  go_wp2
  go_loopw [3, 4] (fun s i wr => ∃ (k : Nat) (a' : Option Addr) (n' c' : Nat), k ≤ len ∧ n' ≤ 100000000 * k ∧ i = .int .i64 k ∧ s = .slice a' n' c' ∧ Hid (Own wr w.heap.size a' n' c' (ls.take k).flatten ∧ Below w.heap.size w wr)) (fun _ i _ => len - (intOf i).toNat)
  case atStart => exact ⟨0, _, _, _, Nat.zero_le _, Nat.zero_le _, rfl, rfl, Lib.hid ⟨own_nil w _ (Nat.le_refl _), (Below.refl _ w).alloc (Nat.le_refl _) _⟩⟩
  case round =>
    obtain ⟨k, a', n', c', hk, hn, rfl, rfl, HW⟩ := hrel
    by_cases hlt : k < len
    · have hltz : (k : Int) < (len : Int) := by omega
      obtain ⟨rfl, hb, hcell, hba, hnv⟩ := HR.out k hlt
      have hbl := hba.len
      have hkl : k < ls.length := by rw [HC.out]; exact hlt
      have h5 : nv k ≤ 100000000 := by
        rw [← hbl]
        refine HS.out _ ?_
        rw [List.getD_eq_getElem?_getD, List.getElem?_eq_getElem hkl]
        exact List.getElem_mem _
      have hfl := flat_take ls k hkl
      have HFL := Lib.hid hfl; have HBA := Lib.hid hba; have HBL := Lib.hid hbl; have HCELL := Lib.hid hcell
      clear hfl hba hbl hcell hnv hkl
      generalize av k = x at HBA HCELL
      generalize nv k = y at HBA HCELL HBL h5
      generalize cv k = z at HCELL
      obtain ⟨W5, e5⟩ : ∃ W, W = wr := ⟨_, rfl⟩
      subst e5
      go_wp2
      go_loopw [3, 5] (fun s i wr => ∃ (j : Nat) (a' : Option Addr) (m' c' : Nat), j ≤ y ∧ m' = n' + j ∧ i = .int .i64 j ∧ s = .slice a' m' c' ∧ Hid (Own wr w.heap.size a' m' c' ((ls.take k).flatten ++ (ls.getD k []).take j) ∧ Below w.heap.size w wr)) (fun _ i _ => y - (intOf i).toNat)
      case atStart => exact ⟨0, _, _, _, Nat.zero_le _, rfl, rfl, rfl, Lib.hid ⟨by rw [List.take_zero, List.append_nil]; exact HW.out.1, HW.out.2⟩⟩
      case round =>
        obtain ⟨j, a2, m', c2, hj, hm', rfl, rfl, HQ⟩ := hrel
        have d : wr.cell? ⟨b, o + k, none⟩ = some (.slice x y z) := (HQ.out.2.cell (p := ⟨b, o + k, none⟩) hb).trans HCELL.out
        by_cases hlt2 : j < y
        · have hltz2 : (j : Int) < (y : Int) := by omega
          obtain ⟨b2, o2, hr2⟩ := (HBA.out.below HQ.out.2).row
          obtain ⟨rfl, _, d2, q1, q2⟩ := hr2 j hlt2
          have hsn : (ls.getD k []).take j ++ [(ls.getD k []).getD j 0] = (ls.getD k []).take (j + 1) := by
            rw [List.take_add_one, List.getD_eq_getElem?_getD (l := ls.getD k []), List.getElem?_eq_getElem (by rw [HBL.out]; exact hlt2)]; rfl
          generalize (ls.getD k []).getD j 0 = v at d2 q1 q2 hsn
          obtain ⟨a5, c5, w5, hrun, hO5, hB5⟩ := append_one wr 22 w.heap.size a2 m' c2 _ HQ.out.1 v ⟨q1, q2⟩ (by omega) HQ.out.2.size
          rw [List.append_assoc, hsn] at hO5
          have HRUN := Lib.hid hrun; have HO5 := Lib.hid hO5; have HB5 := Lib.hid hB5; have HM := Lib.hid hm'
          clear hsn hrun hO5 hB5 hr2 hm'
          go_wp2_with (at_builtin; refine Lib.wpList_append_run _ rfl (.tmp 22) (.tmp 30) 22 22 rfl (.slice a2 m' c2) _ (by rfl) (by rfl) _ _ HRUN.out ?_)
          go_roundw
          case rel => exact ⟨j + 1, a5, m' + 1, c5, by omega, by have := HM.out; omega, by go_num, rfl, Lib.hid ⟨HO5.out, HQ.out.2.trans HB5.out⟩⟩
          case measure => simp [intOf]; omega
        · have hltz2 : ¬ (j : Int) < (y : Int) := by omega
          obtain rfl : j = y := by omega
          have HM := Lib.hid hm'; clear hm'
          go_wp2
          go_roundw
          case rel =>
            refine ⟨k + 1, a2, m', c2, by omega, by have := HM.out; omega, by go_num, rfl, Lib.hid ⟨?_, HQ.out.2⟩⟩
            have := HQ.out.1
            rw [List.take_of_length_le (l := ls.getD k []) (by rw [HBL.out]; exact Nat.le_refl _), ← HFL.out] at this
            exact this
          case measure => simp [intOf]; omega
    · have hltz : ¬ (k : Int) < (len : Int) := by omega
      obtain rfl : k = len := by omega
      have hO := HW.out.1
      rw [List.take_of_length_le (by rw [HC.out]; exact Nat.le_refl _)] at hO
      have hl := hO.len
      rw [HN.out] at hl
      subst hl
      have HO := Lib.hid hO; clear hO
      go_wp2
      go_ret
      exact ⟨_, _, rfl, HO.out, HW.out.2⟩
end Go.Proofs.Ytppgjodehphaeaa

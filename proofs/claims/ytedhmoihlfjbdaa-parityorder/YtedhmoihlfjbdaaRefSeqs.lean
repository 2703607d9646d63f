/-
  The reference of layer 2: List.
-/
import Derived.Test.YtedhmoihlfjbdaaCovRep
import Derived.Deep.Onto
import Derived.Lib.AppendZeros
namespace Go.Proofs.Ytedhmoihlfjbdaa
open Go.RowKit
set_option linter.unusedVariables false
/-- A list of 128 truths in memory: bit i of the document is X.testBit (127 - i). -/
def Bls (g : Nat) (X : Nat) (w : World) : Prop := ∀ i : Nat, i < 128 → w.cell? ⟨g, i, none⟩ = some (.bool (X.testBit (127 - i)))
theorem Bls.below {g X N : Nat} {w w' : World} (h : Bls g X w) (hb : Below N w w') (hg : g < N) : Bls g X w' := fun i hi => (hb.cell (p := ⟨g, i, none⟩) hg).trans (h i hi)
theorem info_ints : (Try.prog.info? 3).map (fun i => (i.zero, i.size, i.bytes)) = some (some (Value.int .i64 0), 1, 8) := by kernel_rfl
/-- append(s, x) of one int. -/
theorem append_i64 (W : World) (ty : TypeId) (base : Nat) (a : Option Addr) (n c : Nat) (xs : List Value) (h : W.ownsRow base 3 1 (.slice a n c) n xs) (x : Int) (hlim : n + 1 ≤ 1099511627776) (hbase : base ≤ W.heap.size) :
    ∃ a' c' w', (Builtin.append_ #[23, 23] ty #[.slice a n c, .slice (some ⟨W.heap.size, 0, none⟩) 1 1]).run Try.prog (W.alloc (.cells #[.int .i64 x] 3)) = .ok (.slice a' (n + 1) c') w' ∧
      w'.ownsRow base 3 1 (.slice a' (n + 1) c') (n + 1) (xs ++ [.int .i64 x]) ∧ Below base W w' := by
  obtain ⟨i0, hi0, hz0, hz1, hz2⟩ := info_parts info_ints
  obtain ⟨v', w', hr, ho, hg, hnil, hat⟩ := run_append_own_at (P := Try.prog) (W.alloc (.cells #[.int .i64 x] 3)) base 23 ty 3 i0 (.int .i64 0) 1 8 Try.underlying23 hi0 hz0 hz1 hz2 rfl (by decide) (.slice a n c) n _ (h.alloc _) ⟨W.heap.size, 0, none⟩ 1 1 [.int .i64 x] rfl (cell_one_new _ _ _) (by simp [Value.oneCell']) (by unfold maxLen; omega) (by omega) (by simp; omega)
  have hv : ∃ a' c', v' = .slice a' (n + 1) c' := by
    rcases ho.2 with ⟨rfl, e⟩ | ⟨g, cap, cur, rfl, _⟩
    · omega
    · exact ⟨_, _, rfl⟩
  obtain ⟨a', c', rfl⟩ := hv
  refine ⟨a', c', w', hr, ho, ((Below.refl _ W).alloc hbase _).grown hg (by simp; omega) (fun k e => ?_)⟩
  exact (h.lt k e).1
def LiPost (X : Nat) (w : World) (e : Ending) (w' : World) : Prop :=
  ∃ a c, e = .returned (.slice a (Mk.bits X).length c) ∧ w'.ownsRow w.heap.size 3 1 (.slice a (Mk.bits X).length c) (Mk.bits X).length ((Mk.bits X).map (Value.int .i64)) ∧ Below w.heap.size w w'
/-- The bits ahead of place k. -/
def Cv.lst (X : Nat) : Nat → List Int | 0 => [] | k + 1 => if X.testBit (127 - k) then Cv.lst X k ++ [(k : Int)] else Cv.lst X k
theorem Cv.lst_dn (X : Nat) : ∀ k, k ≤ 128 → Cv.lst X k ++ Mk.dn (128 - k) X = Mk.bits X
  | 0, _ => rfl
  | k + 1, h => by
    have ih := Cv.lst_dn X k (by omega)
    rw [show 128 - k = (127 - k) + 1 by omega, Mk.dn] at ih
    rw [← ih, show 128 - (k + 1) = 127 - k by omega, Cv.lst]
    split
    · rw [List.append_assoc, show (127 : Int) - ((127 - k : Nat) : Int) = (k : Int) by omega]; rfl
    · rfl
theorem Cv.lst_all (X : Nat) : Cv.lst X 128 = Mk.bits X := by
  have := Cv.lst_dn X 128 (Nat.le_refl _); rwa [show 128 - 128 = 0 from rfl, Mk.dn, List.append_nil] at this
theorem Cv.lst_len (X : Nat) (k : Nat) : (Cv.lst X k).length ≤ k := by
  induction k with
  | zero => exact Nat.le_refl _
  | succ k ih =>
    unfold Cv.lst; split
    · simp; omega
    · omega
set_option maxHeartbeats 1000000 in
set_option maxRecDepth 100000 in
theorem rlist_any (g X cap : Nat) (w : World) (hb : Bls g X w) (hg : g < w.heap.size) :
    Calls Try.prog 98 #[.slice (some ⟨g, 0, none⟩) 128 cap] w (LiPost X w) := by
  have HB := Lib.hid hb; clear hb
  have hO0 : (w.alloc (.cells #[] 3)).ownsRow w.heap.size 3 1 (.slice (some ⟨w.heap.size, 0, none⟩) 0 0) 0 [] := World.ownsRow_made w _ 0 (Nat.le_refl _) (by decide) rfl
  have hB0 : Below w.heap.size w (w.alloc (.cells #[] 3)) := (Below.refl _ w).alloc (Nat.le_refl _) _
  go_enter Try.func98, Try.ntmps98
  go_wp2
  generalize w.alloc (.cells #[] 3) = W0 at hO0 hB0 ⊢
  go_loopw [3, 4] (fun o i wr => ∃ (k n : Nat) (a : Option Addr) (c : Nat), k ≤ 128 ∧ i = .int .i64 k ∧ o = .slice a n c ∧ n = (Cv.lst X k).length ∧ Hid (wr.ownsRow w.heap.size 3 1 (.slice a n c) n ((Cv.lst X k).map (Value.int .i64)) ∧ Below w.heap.size w wr)) (fun _ i _ => 128 - (intOf i).toNat)
  case atStart => exact ⟨0, 0, some ⟨w.heap.size, 0, none⟩, 0, by omega, rfl, rfl, rfl, Lib.hid ⟨hO0, hB0⟩⟩
  case round =>
    clear hO0 hB0
    obtain ⟨k, n, a, c, hk, rfl, rfl, hn, HW⟩ := hrel
    by_cases hlt : k < 128
    · have hltz : (k : Int) < 128 := by omega
      have ck := HW.out.2.cell (p := ⟨g, k, none⟩) hg
      rw [HB.out k hlt] at ck
      have hl : Cv.lst X (k + 1) = if X.testBit (127 - k) then Cv.lst X k ++ [(k : Int)] else Cv.lst X k := rfl
      have hle := Cv.lst_len X k
      generalize X.testBit (127 - k) = t at *
      have HL := Lib.hid hl; have HN := Lib.hid hn; have HLE := Lib.hid hle
      have hnb : n ≤ 128 := by omega
      clear hl hn hle
      cases t
      · go_wp2
        go_roundw
        case rel => exact ⟨k + 1, n, a, c, by omega, by go_num, rfl, by rw [HL.out]; exact HN.out, Lib.hid (by rw [HL.out]; exact HW.out)⟩
        case measure => simp [intOf]; omega
      · obtain ⟨a5, c5, w5, hrun, hO5, hB5⟩ := append_i64 wr 23 w.heap.size a n c _ HW.out.1 k (by omega) HW.out.2.size
        have HRUN := Lib.hid hrun; have HO5 := Lib.hid hO5; have HB5 := Lib.hid hB5; clear hrun hO5 hB5
        go_wp2_with (at_builtin; refine Lib.wpList_append_run _ rfl (.tmp 16) (.tmp 18) 23 23 rfl (.slice a n c) _ (by rfl) (by rfl) _ _ HRUN.out ?_)
        go_roundw
        case rel => exact ⟨k + 1, n + 1, a5, c5, by omega, by go_num, rfl, by rw [HL.out]; simp; exact HN.out, Lib.hid ⟨by rw [HL.out]; simp only [if_true, List.map_append]; exact HO5.out, HW.out.2.trans HB5.out⟩⟩
        case measure => simp [intOf]; omega
    · obtain rfl : k = 128 := by omega
      have hla := Cv.lst_all X
      rw [hla] at hn HW
      go_wp2
      refine bodyPost_ret (v := .slice a n c) (by simp [results, Try.results98, go_sem]) rfl ?_
      subst hn
      exact ⟨a, c, rfl, HW.out.1, HW.out.2⟩
end Go.Proofs.Ytedhmoihlfjbdaa
namespace Go.Proofs.Ytedhmoihlfjbdaa
open Go.RowKit
set_option linter.unusedVariables false
theorem info_bool2 : (Try.prog.info? 4).map (fun i => (i.zero, i.size, i.bytes)) = some (some (Value.bool false), 1, 1) := by kernel_rfl
/-- append(s, x) of one truth. -/
theorem append_bool (W : World) (ty : TypeId) (base : Nat) (a : Option Addr) (n c : Nat) (xs : List Value) (h : W.ownsRow base 4 1 (.slice a n c) n xs) (x : Bool) (hlim : n + 1 ≤ 1099511627776) (hbase : base ≤ W.heap.size) :
    ∃ a' c' w', (Builtin.append_ #[150, 150] ty #[.slice a n c, .slice (some ⟨W.heap.size, 0, none⟩) 1 1]).run Try.prog (W.alloc (.cells #[.bool x] 4)) = .ok (.slice a' (n + 1) c') w' ∧
      w'.ownsRow base 4 1 (.slice a' (n + 1) c') (n + 1) (xs ++ [.bool x]) ∧ Below base W w' := by
  obtain ⟨i0, hi0, hz0, hz1, hz2⟩ := info_parts info_bool2
  obtain ⟨v', w', hr, ho, hg, hnil, hat⟩ := run_append_own_at (P := Try.prog) (W.alloc (.cells #[.bool x] 4)) base 150 ty 4 i0 (.bool false) 1 1 Try.underlying150 hi0 hz0 hz1 hz2 rfl (by decide) (.slice a n c) n _ (h.alloc _) ⟨W.heap.size, 0, none⟩ 1 1 [.bool x] rfl (cell_one_new _ _ _) (by simp [Value.oneCell']) (by unfold maxLen; omega) (by omega) (by simp; omega)
  have hv : ∃ a' c', v' = .slice a' (n + 1) c' := by
    rcases ho.2 with ⟨rfl, e⟩ | ⟨g, cap, cur, rfl, _⟩
    · omega
    · exact ⟨_, _, rfl⟩
  obtain ⟨a', c', rfl⟩ := hv
  refine ⟨a', c', w', hr, ho, ((Below.refl _ W).alloc hbase _).grown hg (by simp; omega) (fun k e => ?_)⟩
  exact (h.lt k e).1
/-- The truths of the first k places. -/
def Cv.bls (X : Nat) (k : Nat) : List Value := (List.range k).map fun i => .bool (X.testBit (127 - i))
theorem Cv.bls_succ (X k : Nat) : Cv.bls X (k + 1) = Cv.bls X k ++ [.bool (X.testBit (127 - k))] := by unfold Cv.bls; rw [List.range_succ, List.map_append]; rfl
theorem Cv.bls_get (X : Nat) {k i : Nat} (h : i < k) : (Cv.bls X k)[i]? = some (.bool (X.testBit (127 - i))) := by unfold Cv.bls; simp [h]
def BlPost (X : Nat) (w : World) (e : Ending) (w' : World) : Prop :=
  ∃ g c, e = .returned (.slice (some ⟨g, 0, none⟩) 128 c) ∧ Bls g X w' ∧ w.heap.size ≤ g ∧ g < w'.heap.size ∧ Below w.heap.size w w'
/-- A bit by shift and remainder. -/
theorem bit_int (a i : Nat) : (((a : Int) / 2 ^ i).tmod 2 == 1) = a.testBit i := by
  have h : ((a : Int) / 2 ^ i).tmod 2 = ((a / 2 ^ i % 2 : Nat) : Int) := by
    rw [show (2 : Int) ^ i = ((2 ^ i : Nat) : Int) by simp, ← Int.natCast_ediv]; rfl
  rw [h, Nat.testBit_eq_decide_div_mod_eq]
  by_cases h1 : a / 2 ^ i % 2 = 1
  · rw [h1]; rfl
  · rw [show a / 2 ^ i % 2 = 0 by omega]; rfl
theorem bls_of_own {W : World} {base : Nat} {a : Option Addr} {c X : Nat} (h : W.ownsRow base 4 1 (.slice a 128 c) 128 (Cv.bls X 128)) : ∃ g, a = some ⟨g, 0, none⟩ ∧ Bls g X W ∧ base ≤ g ∧ g < W.heap.size := by
  rcases h.2 with ⟨h1, h2⟩ | ⟨g, cap, cur, h1, h2, h3, h4, h5, h6, h7⟩
  · omega
  · simp only [Value.slice.injEq] at h1
    refine ⟨g, h1.1, fun i hi => ?_, h2, (Array.getElem?_eq_some_iff.1 h3).1⟩
    have h8 := Cv.bls_get X (k := 128) hi
    rw [← h7, List.getElem?_take_of_lt (by omega)] at h8
    rw [World.cell?, h3]
    simpa using h8
set_option maxHeartbeats 1000000 in
set_option maxRecDepth 100000 in
theorem rof2_any (X : Nat) (hX : Mk.Ok X) (w : World) :
    Calls Try.prog 99 #[.int .u64 (Mk.H X), .int .u64 (Mk.L X)] w (BlPost X w) := by
  have hO0 : (w.alloc (.cells #[] 4)).ownsRow w.heap.size 4 1 (.slice (some ⟨w.heap.size, 0, none⟩) 0 0) 0 [] := World.ownsRow_made w _ 0 (Nat.le_refl _) (by decide) rfl
  have hB0 : Below w.heap.size w (w.alloc (.cells #[] 4)) := (Below.refl _ w).alloc (Nat.le_refl _) _
  have hH : ∀ k, k < 64 → X.testBit (127 - k) = (Mk.H X).testBit (63 - k) := fun k hk => by rw [Mk.H_bit]; congr 1; omega
  have hL : ∀ k, k < 64 → X.testBit (127 - (64 + k)) = (Mk.L X).testBit (63 - k) := fun k hk => by rw [Mk.L_bit, show 127 - (64 + k) = 63 - k by omega]; simp; omega
  generalize Mk.H X = H at *
  generalize Mk.L X = L at *
  have HH := Lib.hid hH; have HLO := Lib.hid hL; clear hH hL
  go_enter Try.func99, Try.ntmps99
  go_wp2
  generalize w.alloc (.cells #[] 4) = W0 at hO0 hB0 ⊢
  go_loopw [5, 6] (fun o i wr => ∃ (k : Nat) (a : Option Addr) (c : Nat), k ≤ 64 ∧ i = .int .i64 (63 - (k : Int)) ∧ o = .slice a k c ∧ Hid (wr.ownsRow w.heap.size 4 1 (.slice a k c) k (Cv.bls X k) ∧ Below w.heap.size w wr)) (fun _ i _ => (intOf i + 1).toNat)
  case atStart => exact ⟨0, some ⟨w.heap.size, 0, none⟩, 0, by omega, rfl, rfl, Lib.hid ⟨hO0, hB0⟩⟩
  case round =>
    clear hO0 hB0
    obtain ⟨k, a, c, hk, rfl, rfl, HW⟩ := hrel
    by_cases hlt : k < 64
    · obtain ⟨i, hi⟩ : ∃ i : Nat, 63 - (k : Int) = i := ⟨63 - k, by omega⟩
      have hi0 : (0 : Int) ≤ (i : Int) := by omega
      rw [hi]
      have hbit : (((H : Int) / 2 ^ min i 64).tmod 2 == 1) = H.testBit i := by rw [Nat.min_eq_left (by omega)]; exact bit_int H i
      have hsn := Cv.bls_succ X k
      rw [HH.out k hlt, show 63 - k = i by omega] at hsn
      generalize H.testBit i = bb at *
      have HSN := Lib.hid hsn; have HI := Lib.hid hi; clear hsn hi
      obtain ⟨a5, c5, w5, hrun, hO5, hB5⟩ := append_bool wr 150 w.heap.size a k c _ HW.out.1 bb (by omega) HW.out.2.size
      have HRUN := Lib.hid hrun; have HO5 := Lib.hid hO5; have HB5 := Lib.hid hB5; clear hrun hO5 hB5
      go_wp2_with (at_builtin; refine Lib.wpList_append_run _ rfl (.tmp 13) (.tmp 19) 150 150 rfl (.slice a k c) _ (by rfl) (by rfl) _ _ HRUN.out ?_)
      go_roundw
      case rel => have hi := HI.out; exact ⟨k + 1, a5, c5, by omega, by rw [w64_in ((i : Int) - 1) (by omega) (by omega)]; congr 1; omega, rfl, Lib.hid ⟨by rw [HSN.out]; exact HO5.out, HW.out.2.trans HB5.out⟩⟩
      case measure => have hi := HI.out; simp [intOf, w64_in ((i : Int) - 1) (by omega) (by omega)]
    · obtain rfl : k = 64 := by omega
      clear hlt
      rw [show (63 : Int) - ((64 : Nat) : Int) = -1 from rfl]
      go_wp2
      go_loopw [5, 7] (fun o i wr => ∃ (k : Nat) (a : Option Addr) (c : Nat), k ≤ 64 ∧ i = .int .i64 (63 - (k : Int)) ∧ o = .slice a (64 + k) c ∧ Hid (wr.ownsRow w.heap.size 4 1 (.slice a (64 + k) c) (64 + k) (Cv.bls X (64 + k)) ∧ Below w.heap.size w wr)) (fun _ i _ => (intOf i + 1).toNat)
      case atStart => exact ⟨0, a, c, by omega, rfl, rfl, HW⟩
      case round =>
        clear HW
        obtain ⟨k, a, c, hk, rfl, rfl, HW⟩ := hrel
        by_cases hlt : k < 64
        · obtain ⟨i, hi⟩ : ∃ i : Nat, 63 - (k : Int) = i := ⟨63 - k, by omega⟩
          have hi0 : (0 : Int) ≤ (i : Int) := by omega
          rw [hi]
          have hbit : (((L : Int) / 2 ^ min i 64).tmod 2 == 1) = L.testBit i := by rw [Nat.min_eq_left (by omega)]; exact bit_int L i
          have hsn := Cv.bls_succ X (64 + k)
          rw [HLO.out k hlt, show 63 - k = i by omega] at hsn
          generalize L.testBit i = bb at *
          have HSN := Lib.hid hsn; have HI := Lib.hid hi; clear hsn hi
          obtain ⟨a5, c5, w5, hrun, hO5, hB5⟩ := append_bool wr 150 w.heap.size a (64 + k) c _ HW.out.1 bb (by omega) HW.out.2.size
          have HRUN := Lib.hid hrun; have HO5 := Lib.hid hO5; have HB5 := Lib.hid hB5; clear hrun hO5 hB5
          go_wp2_with (at_builtin; refine Lib.wpList_append_run _ rfl (.tmp 25) (.tmp 31) 150 150 rfl (.slice a (64 + k) c) _ (by rfl) (by rfl) _ _ HRUN.out ?_)
          go_roundw
          case rel =>
            have hi := HI.out; exact ⟨k + 1, a5, c5, by omega, by rw [w64_in ((i : Int) - 1) (by omega) (by omega)]; congr 1; omega, rfl, Lib.hid ⟨by rw [show 64 + (k + 1) = 64 + k + 1 by omega, HSN.out]; exact HO5.out, HW.out.2.trans HB5.out⟩⟩
          case measure => have hi := HI.out; simp [intOf, w64_in ((i : Int) - 1) (by omega) (by omega)]
        · obtain rfl : k = 64 := by omega
          obtain ⟨g, rfl, hbl, h1, h2⟩ := bls_of_own HW.out.1
          go_wp2
          refine bodyPost_ret (v := .slice (some ⟨g, 0, none⟩) 128 c) (by simp [results, Try.results99, go_sem]) rfl ?_
          exact ⟨g, c, rfl, hbl, h1, h2, HW.out.2⟩
end Go.Proofs.Ytedhmoihlfjbdaa
namespace Go.Proofs.Ytedhmoihlfjbdaa
open Go.RowKit
set_option linter.unusedVariables false
/-- append(s, x) of one uint16. -/
theorem append_u16 (W : World) (ty : TypeId) (base : Nat) (a : Option Addr) (n c : Nat) (xs : List Value) (h : W.ownsRow base 29 1 (.slice a n c) n xs) (x : Int) (hlim : n + 1 ≤ 1099511627776) (hbase : base ≤ W.heap.size) :
    ∃ a' c' w', (Builtin.append_ #[52, 52] ty #[.slice a n c, .slice (some ⟨W.heap.size, 0, none⟩) 1 1]).run Try.prog (W.alloc (.cells #[.int .u16 x] 29)) = .ok (.slice a' (n + 1) c') w' ∧
      w'.ownsRow base 29 1 (.slice a' (n + 1) c') (n + 1) (xs ++ [.int .u16 x]) ∧ Below base W w' ∧ (∀ k, k < W.heap.size → (∀ y, a = some y → y.block ≠ k) → w'.heap[k]? = W.heap[k]?) ∧ (∀ z, a' = some z → (∃ y, a = some y ∧ y.block = z.block) ∨ W.heap.size ≤ z.block) := by
  obtain ⟨i0, hi0, hz0, hz1, hz2⟩ := info_parts info_u16
  obtain ⟨v', w', hr, ho, hg, hnil, hat⟩ := run_append_own_at (P := Try.prog) (W.alloc (.cells #[.int .u16 x] 29)) base 52 ty 29 i0 (.int .u16 0) 1 2 Try.underlying52 hi0 hz0 hz1 hz2 rfl (by decide) (.slice a n c) n _ (h.alloc _) ⟨W.heap.size, 0, none⟩ 1 1 [.int .u16 x] rfl (cell_one_new _ _ _) (by simp [Value.oneCell']) (by unfold maxLen; omega) (by omega) (by simp; omega)
  have hv : ∃ a' c', v' = .slice a' (n + 1) c' := by
    rcases ho.2 with ⟨rfl, e⟩ | ⟨g, cap, cur, rfl, _⟩
    · omega
    · exact ⟨_, _, rfl⟩
  obtain ⟨a', c', rfl⟩ := hv
  refine ⟨a', c', w', hr, ho, ((Below.refl _ W).alloc hbase _).grown hg (by simp; omega) (fun k e => (h.lt k e).1), fun k hk hne => ?_, fun z hz => ?_⟩
  · refine (hg.block k (by simp; omega) (fun e => ?_)).trans (Below.heap_alloc W _ k hk)
    cases a with
    | none => cases e
    | some y => simp [Value.ownBlock] at e; exact hne y rfl e.symm
  · subst hz
    rcases hat with e | e
    · cases a with
      | none => cases e
      | some y => simp [Value.ownBlock] at e; exact .inl ⟨y, rfl, e.symm⟩
    · simp [Value.ownBlock] at e; exact .inr (by omega)
/-- What lies in an own row, cell by cell. -/
theorem own_cell {W : World} {base : Nat} {e : TypeId} {a : Option Addr} {n c : Nat} {xs : List Value} (h : W.ownsRow base e 1 (.slice a n c) n xs) {i : Nat} {x : Value} (hx : xs[i]? = some x) : ∃ g, a = some ⟨g, 0, none⟩ ∧ base ≤ g ∧ g < W.heap.size ∧ W.cell? ⟨g, i, none⟩ = some x := by
  have hl := (List.getElem?_eq_some_iff.1 hx).1
  have h0 := h.1
  rcases h.2 with ⟨h1, h2⟩ | ⟨g, cap, cur, h1, h2, h3, h4, h5, h6, h7⟩
  · omega
  · simp only [Value.slice.injEq] at h1
    refine ⟨g, h1.1, h2, (Array.getElem?_eq_some_iff.1 h3).1, ?_⟩
    rw [← h7, List.getElem?_take_of_lt (by omega)] at hx
    rw [World.cell?, h3]
    simpa using hx
theorem dn_mem (X : Nat) : ∀ n, n ≤ 128 → ∀ x ∈ Mk.dn n X, 0 ≤ x ∧ x ≤ 127
  | 0, _, x, h => by cases h
  | n + 1, hn, x, h => by
    unfold Mk.dn at h
    split at h
    · rcases List.mem_cons.1 h with rfl | h
      · omega
      · exact dn_mem X n (by omega) x h
    · exact dn_mem X n (by omega) x h
def RsqPost (b : Int) (X : Nat) (w : World) (e : Ending) (w' : World) : Prop :=
  ∃ a c, e = .returned (.slice a (Mk.bits X).length c) ∧ w'.ownsRow w.heap.size 29 1 (.slice a (Mk.bits X).length c) (Mk.bits X).length ((Cv.seqs b X).map (Value.int .u16)) ∧ Below w.heap.size w w'
set_option maxHeartbeats 1000000 in
set_option maxRecDepth 100000 in
theorem rseqs_any (b : Int) (hb0 : 0 ≤ b) (hb1 : b < 65536) (X : Nat) (hX : Mk.Ok X) (w : World) :
    Calls Try.prog 63 #[.int .u16 b, .int .u64 (Mk.H X), .int .u64 (Mk.L X)] w (RsqPost b X w) := by
  have hO0 : (w.alloc (.cells #[] 29)).ownsRow w.heap.size 29 1 (.slice (some ⟨w.heap.size, 0, none⟩) 0 0) 0 [] := World.ownsRow_made w _ 0 (Nat.le_refl _) (by decide) rfl
  have hB0 : Below w.heap.size w (w.alloc (.cells #[] 29)) := (Below.refl _ w).alloc (Nat.le_refl _) _
  have hzw : (w.alloc (.cells #[] 29)).heap.size = w.heap.size + 1 := by simp
  have hof := fun w => rof2_any X hX w
  generalize Mk.H X = H at *
  generalize Mk.L X = L at *
  have HOF := Lib.hid hof; clear hof
  go_enter Try.func63, Try.ntmps63
  obtain ⟨W0, hW0⟩ : ∃ u, w.alloc (.cells #[] 29) = u := ⟨_, rfl⟩
  rw [hW0] at hO0 hB0 hzw
  have HO0 := Lib.hid hO0; have HB0 := Lib.hid hB0; clear hO0 hB0
  go_wp2_with (first
    | (rw [hW0])
    | (go_at_call 99; refine (HOF.out _).mono ?_; rintro e w1 ⟨g, cg, rfl, hbl, hg1, hg2, hB1⟩; have HB1 := Lib.hid hB1; have HBL := Lib.hid hbl; clear hB1 hbl)
    | (go_at_call 98; refine (rlist_any g X cg _ HBL.out hg2).mono ?_; rintro e w2 ⟨al, cl, rfl, hLI, hB2⟩; have HB2 := Lib.hid hB2; have HLI := Lib.hid hLI; clear hB2 hLI))
  have hn := Mk.bits_len X
  have hls : (Cv.seqs b X) = (Mk.bits X).map (Ser.add b) := rfl
  have HLS := Lib.hid hls; clear hls
  have hs1 := HB1.out.size
  have hs2 := HB2.out.size
  have hb2 : Below w.heap.size w w2 := (HB0.out.trans (HB1.out.mono HB0.out.size)).trans (HB2.out.mono (by omega))
  have ho2 : w2.ownsRow w.heap.size 29 1 (.slice (some ⟨w.heap.size, 0, none⟩) 0 0) 0 [] := (HO0.out.kept (grown_of_below HB1.out) (by simp [Value.ownBlock])).kept (grown_of_below HB2.out) (by simp [Value.ownBlock])
  have HB3 := Lib.hid hb2; have HO3 := Lib.hid ho2; clear hb2 ho2 hW0
  generalize hN : (Mk.bits X).length = N at *
  have hcl := HLI.out
  go_loopw [7, 9] (fun o i wr => ∃ (k : Nat) (a : Option Addr) (c : Nat), k ≤ N ∧ i = .int .i64 k ∧ o = .slice a k c ∧ Hid (wr.ownsRow w.heap.size 29 1 (.slice a k c) k (((Cv.seqs b X).take k).map (Value.int .u16)) ∧ Below w.heap.size w wr ∧ (∀ y, a = some y → y.block = w.heap.size ∨ w2.heap.size ≤ y.block) ∧ w2.heap.size ≤ wr.heap.size ∧ (∀ j, w.heap.size < j → j < w2.heap.size → wr.heap[j]? = w2.heap[j]?))) (fun _ i _ => N - (intOf i).toNat)
  case atStart => exact ⟨0, some ⟨w.heap.size, 0, none⟩, 0, by omega, rfl, rfl, Lib.hid ⟨HO3.out, HB3.out, fun y hy => .inl (by cases hy; rfl), Nat.le_refl _, fun _ _ _ => rfl⟩⟩
  case round =>
    obtain ⟨k, a, c, hk, rfl, rfl, HW⟩ := hrel
    by_cases hlt : k < N
    · have hltz : (k : Int) < (N : Int) := by omega
      obtain ⟨x, hx⟩ : ∃ x, (Mk.bits X)[k]? = some x := ⟨_, List.getElem?_eq_getElem (by omega)⟩
      obtain ⟨gl, rfl, hg3, hg4, hck⟩ := own_cell HLI.out (i := k) (x := .int .i64 x) (by simp [hx])
      have hck' : wr.cell? ⟨gl, k, none⟩ = some (.int .i64 x) := (World.cell?_of_block (w := w2) (a := ⟨gl, k, none⟩) (HW.out.2.2.2.2 gl (by omega) hg4)).trans hck
      clear hck hcl
      have hsn : (((Cv.seqs b X).take (k + 1)).map (Value.int .u16)) = (((Cv.seqs b X).take k).map (Value.int .u16)) ++ [.int .u16 (Ser.add b x)] := by
        rw [HLS.out, List.take_add_one, List.getElem?_map, hx]; simp
      have HSN := Lib.hid hsn; clear hsn
      have hxb := dn_mem X 128 (Nat.le_refl _) x (List.mem_of_getElem? hx)
      have hadd := fun w => refadd_any b x hb0 hb1 (by omega) (by omega) w
      have HADD := Lib.hid hadd; clear hadd
      clear hx hxb
      generalize Ser.add b x = v at *
      obtain ⟨a5, c5, w5, hrun, hO5, hB5, hk5, hz5⟩ := append_u16 wr 52 w.heap.size a k c _ HW.out.1 v (by omega) HW.out.2.1.size
      have HRUN := Lib.hid hrun; have HO5 := Lib.hid hO5; have HB5 := Lib.hid hB5; have HK5 := Lib.hid hk5; have HZ5 := Lib.hid hz5; clear hrun hO5 hB5 hk5 hz5
      go_wp2_with (first
        | (go_at_call 100; (with_reducible refine (HADD.out _).mono ?_); rintro e w' ⟨rfl, rfl⟩)
        | (at_builtin; refine Lib.wpList_append_run _ rfl (.tmp 21) (.tmp 28) 52 52 rfl (.slice a k c) _ (by rfl) (by rfl) _ _ HRUN.out ?_))
      go_roundw
      case rel =>
        refine ⟨k + 1, a5, c5, by omega, by go_num, rfl, Lib.hid ⟨by rw [HSN.out]; exact HO5.out, HW.out.2.1.trans HB5.out, fun z hz => ?_, Nat.le_trans HW.out.2.2.2.1 ?_, fun j h1 h2 => ?_⟩⟩
        · rcases HZ5.out z hz with ⟨y, hy, e⟩ | h
          · rw [← e]; exact HW.out.2.2.1 y hy
          · exact .inr (Nat.le_trans HW.out.2.2.2.1 h)
        · exact HB5.out.size
        · exact (HK5.out j (Nat.lt_of_lt_of_le h2 HW.out.2.2.2.1) (fun y hy => by rcases HW.out.2.2.1 y hy with e | e <;> omega)).trans (HW.out.2.2.2.2 j h1 h2)
      case measure => simp [intOf]; omega
    · obtain rfl : k = N := by omega
      go_wp2
      refine bodyPost_ret (v := .slice a k c) (by simp [results, Try.results63, go_sem]) rfl ?_
      refine ⟨a, c, by rw [hN], ?_, HW.out.2.1⟩
      have h := HW.out.1
      rw [hN]
      rwa [show (Cv.seqs b X).take k = Cv.seqs b X from List.take_of_length_le (by rw [HLS.out]; simp; omega)] at h
end Go.Proofs.Ytedhmoihlfjbdaa

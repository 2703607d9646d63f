/-
  The reference of layer 4, further: Xor, Gap, Fit; confluxref02.Held; confluxref01.Copy.
-/
import Derived.Test.YthfiahdeggmmcaaStrRef
namespace Go.Proofs.Ythfiahdeggmmcaa
open Go.RowKit Go.Shelf
set_option linter.unusedVariables false
theorem own_nil (W : World) (base : Nat) (hb : base ≤ W.heap.size) : Own (W.alloc (.cells #[] 5)) base (some ⟨W.heap.size, 0, none⟩) 0 0 [] :=
  ⟨⟨rfl, .inr ⟨W.heap.size, 0, #[], rfl, hb, heap_alloc_new W _, Nat.le_refl _, Nat.zero_le _, rfl, rfl⟩⟩, Str.ok_nil⟩
/-- append(s, x) of one byte, as the builtin makes it. -/
theorem append_one (W : World) (ty : TypeId) (base : Nat) (a : Option Addr) (n c : Nat) (l : List Int) (h : Own W base a n c l) (x : Int) (hx : 0 ≤ x ∧ x < 256) (hlim : n + 1 ≤ 140737488355328) (hbase : base ≤ W.heap.size) :
    ∃ a' c' w', (Builtin.append_ #[22, 22] ty #[.slice a n c, .slice (some ⟨W.heap.size, 0, none⟩) 1 1]).run Try.prog (W.alloc (.cells #[.int .u8 x] 5)) = .ok (.slice a' (n + 1) c') w' ∧
      Own w' base a' (n + 1) c' (l ++ [x]) ∧ Below base W w' := by
  have hb0 : Below W.heap.size W (W.alloc (.cells #[.int .u8 x] 5)) := (Below.refl _ W).alloc (Nat.le_refl _) _
  obtain ⟨a', c', w', hr, ho, hg, _⟩ := append_bytes (W.alloc (.cells #[.int .u8 x] 5)) ty base a n c l (h.below hb0) (some ⟨W.heap.size, 0, none⟩) 1 1 [x] (lit_bat (l := [x]) (heap_alloc_new W _) (fun i => by cases i with | zero => exact hx | succ i => simp) (by simp)) hlim (by simp; omega)
  refine ⟨a', c', w', hr, ho, ((hb0.mono hbase).trans ((Below.refl _ _).grown hg (by simp; omega) (fun k e => ?_)))⟩
  cases a with
  | none => cases e
  | some y => have := (h.blk y rfl).1; simp at e; omega
theorem xor_take_snoc (a b : List Int) (k : Nat) (h : k < max a.length b.length) : (Str.xor a b).take k ++ [Str.bx (a.getD k 0) (b.getD k 0)] = (Str.xor a b).take (k + 1) := by
  have hk : k < (Str.xor a b).length := by rw [Str.xor_len]; exact h
  rw [List.take_add_one, List.getElem?_eq_getElem hk]
  have := Str.xor_at a b k
  rw [List.getD_eq_getElem?_getD, List.getElem?_eq_getElem hk] at this
  simp only [Option.getD_some] at this
  rw [this]; rfl
set_option maxHeartbeats 1000000 in
set_option maxRecDepth 100000 in
theorem rxor_any (a b : Option Addr) (n m c d : Nat) (la lb : List Int) (w : World) (ha : BAt w a n la) (hb : BAt w b m lb) (hn : n ≤ 140737488355328) (hm : m ≤ 140737488355328) :
    Calls Try.prog 35 #[.slice a n c, .slice b m d] w (NewB (max n m) (Str.xor la lb) w) := by
  have e1 := ha.len; have e2 := hb.len
  have HA := Lib.hid ha; have HB := Lib.hid hb; have E1 := Lib.hid e1; have E2 := Lib.hid e2; clear ha hb e1 e2
  have hXL : (Str.xor la lb).length = max n m := by rw [Str.xor_len, E1.out, E2.out]
  have HXL := Lib.hid hXL; clear hXL
  go_enter Try.func35, Try.ntmps35
  go_wp2
  go_loopw [5, 6] (fun s i wr => ∃ (k : Nat) (a' : Option Addr) (c' : Nat), k ≤ max n m ∧ i = .int .i64 k ∧ s = .slice a' k c' ∧ Hid (Own wr w.heap.size a' k c' ((Str.xor la lb).take k) ∧ Below w.heap.size w wr)) (fun _ i _ => max n m - (intOf i).toNat)
  case atStart => exact ⟨0, _, _, Nat.zero_le _, rfl, rfl, Lib.hid ⟨own_nil w _ (Nat.le_refl _), (Below.refl _ w).alloc (Nat.le_refl _) _⟩⟩
  case round =>
    obtain ⟨k, a', c', hk, rfl, rfl, HW⟩ := hrel
    by_cases hlt : k < max n m
    · have hor : (k : Int) < (n : Int) ∨ ¬ (k : Int) < (n : Int) ∧ (k : Int) < (m : Int) := by omega
      have hatA := at_any a n c la k wr (HA.out.below HW.out.2) (by omega)
      have hatB := at_any b m d lb k wr (HB.out.below HW.out.2) (by omega)
      have hx1 := HA.out.ok k; have hx2 := HB.out.ok k
      have hone := one_any _ _ wr hx1 hx2
      have hsn := xor_take_snoc la lb k (by rw [E1.out, E2.out]; exact hlt)
      have hby := Str.bx_byte hx1 hx2
      generalize Str.bx (la.getD k 0) (lb.getD k 0) = z at hone hsn hby
      generalize la.getD k 0 = x at hatA hone
      generalize lb.getD k 0 = y at hatB hone
      have HATA := Lib.hid hatA; have HATB := Lib.hid hatB; have HONE := Lib.hid hone; have HSN := Lib.hid hsn; have HBY := Lib.hid hby
      clear hatA hatB hone hsn hby hx1 hx2
      rcases hor with h1 | ⟨h1, h2⟩
      all_goals
        go_wp2_with (first
          | (go_at_call_of 69 (Value.slice a n c); (with_reducible refine (HATA.out).mono ?_); rintro e w' ⟨rfl, rfl⟩)
          | (go_at_call_of 69 (Value.slice b m d); (with_reducible refine (HATB.out).mono ?_); rintro e w' ⟨rfl, rfl⟩)
          | (go_at_call 68; (with_reducible refine (HONE.out).mono ?_); rintro e w' ⟨rfl, j, rfl⟩
             obtain ⟨a5, c5, w5, hrun, hO5, hB5⟩ := append_one (wr.drewN j) 22 w.heap.size a' k c' _ (HW.out.1.below ⟨rfl, rfl, rfl, Nat.le_refl _, fun _ _ => rfl⟩) z HBY.out (by omega) HW.out.2.size
             have HRUN := Lib.hid hrun; have HO5 := Lib.hid hO5; have HB5 := Lib.hid hB5; clear hrun hO5 hB5)
          | (at_builtin; refine Lib.wpList_append_run _ rfl (.tmp 20) (.tmp 28) 22 22 rfl (.slice a' k c') _ (by rfl) (by rfl) _ _ HRUN.out ?_))
        go_roundw
        case rel => exact ⟨k + 1, a5, c5, by omega, by go_num, rfl, Lib.hid ⟨HSN.out ▸ HO5.out, HW.out.2.trans ((below_drewN wr _ j).trans HB5.out)⟩⟩
        case measure => simp [intOf]; omega
    · have h1 : ¬ (k : Int) < (n : Int) := by omega
      have h2 : ¬ (k : Int) < (m : Int) := by omega
      obtain rfl : k = max n m := by omega
      go_wp2
      go_ret
      have hO := HW.out.1
      rw [List.take_of_length_le (by rw [HXL.out]; exact Nat.le_refl _)] at hO
      exact ⟨_, _, rfl, hO, HW.out.2⟩
set_option maxHeartbeats 1000000 in
set_option maxRecDepth 100000 in
theorem rgap_any (a b : Option Addr) (n m c d : Nat) (la lb : List Int) (w : World) (ha : BAt w a n la) (hb : BAt w b m lb) (hn : n ≤ 140737488355328) (hm : m ≤ 140737488355328) :
    Calls Try.prog 37 #[.slice a n c, .slice b m d] w (SameV (.int .i64 (Str.gap la lb)) w) := by
  have e1 := ha.len; have e2 := hb.len
  have HA := Lib.hid ha; have HB := Lib.hid hb; have E1 := Lib.hid e1; have E2 := Lib.hid e2; clear ha hb e1 e2
  go_enter Try.func37, Try.ntmps37
  go_wp2
  go_loop [5] (fun i => ∃ k : Nat, k ≤ max n m ∧ i = .int .i64 k ∧ Hid (∀ j, j < k → la.getD j 0 = lb.getD j 0)) (fun i => max n m - (intOf i).toNat)
  case atStart => exact ⟨0, Nat.zero_le _, rfl, Lib.hid (fun j hj => by omega)⟩
  case round =>
    obtain ⟨k, hk, rfl, HE⟩ := hrel
    by_cases hlt : k < max n m
    · have hor : (k : Int) < (n : Int) ∨ ¬ (k : Int) < (n : Int) ∧ (k : Int) < (m : Int) := by omega
      have hatA := at_any a n c la k w HA.out (by omega)
      have hatB := at_any b m d lb k w HB.out (by omega)
      by_cases hx : la.getD k 0 = lb.getD k 0
      · have HE' : Hid (∀ j, j < k + 1 → la.getD j 0 = lb.getD j 0) := Lib.hid fun j hj => by
          by_cases e : j = k
          · subst e; exact hx
          · exact HE.out j (by omega)
        have hbn : (la.getD k 0 != lb.getD k 0) = false := by rw [hx]; simp
        clear hx
        generalize la.getD k 0 = x at hatA hbn
        generalize lb.getD k 0 = y at hatB hbn
        have HATA := Lib.hid hatA; have HATB := Lib.hid hatB; clear hatA hatB
        rcases hor with h1 | ⟨h1, h2⟩
        all_goals
          go_wp2_with (first
            | (go_at_call_of 69 (Value.slice a n c); (with_reducible refine (HATA.out).mono ?_); rintro e w' ⟨rfl, rfl⟩)
            | (go_at_call_of 69 (Value.slice b m d); (with_reducible refine (HATB.out).mono ?_); rintro e w' ⟨rfl, rfl⟩))
          go_round
          case rel => exact ⟨k + 1, by omega, by go_num, HE'⟩
          case measure => simp [intOf]; omega
      · have hg := Str.gap_at hx HE.out
        have HG := Lib.hid hg
        have hbn : (la.getD k 0 != lb.getD k 0) = true := by simpa using hx
        clear hx hg
        generalize la.getD k 0 = x at hatA hbn
        generalize lb.getD k 0 = y at hatB hbn
        have HATA := Lib.hid hatA; have HATB := Lib.hid hatB; clear hatA hatB
        rcases hor with h1 | ⟨h1, h2⟩
        all_goals
          go_wp2_with (first
            | (go_at_call_of 69 (Value.slice a n c); (with_reducible refine (HATA.out).mono ?_); rintro e w' ⟨rfl, rfl⟩)
            | (go_at_call_of 69 (Value.slice b m d); (with_reducible refine (HATB.out).mono ?_); rintro e w' ⟨rfl, rfl⟩))
          go_ret
          exact ⟨by rw [HG.out] <;> rfl, rfl⟩
    · have h1 : ¬ (k : Int) < (n : Int) := by omega
      have h2 : ¬ (k : Int) < (m : Int) := by omega
      have hg : Str.gap la lb = -1 := Str.gap_none fun j => by
        by_cases hj : j < k
        · exact HE.out j hj
        · have := E1.out; have := E2.out; rw [getD_out (a := la) (by omega), getD_out (a := lb) (by omega)]
      have HG := Lib.hid hg; clear hg
      go_wp2
      go_ret
      exact ⟨by rw [HG.out] <;> rfl, rfl⟩
theorem fit_take_snoc (l : List Int) (m k : Nat) (h : k < m) : (Str.fit l m).take k ++ [l.getD k 0] = (Str.fit l m).take (k + 1) := by
  have hk : k < (Str.fit l m).length := by rw [Str.fit_len]; exact h
  rw [List.take_add_one, List.getElem?_eq_getElem hk]
  have := Str.fit_at l m k
  rw [if_pos h, List.getD_eq_getElem?_getD, List.getElem?_eq_getElem hk] at this
  simp only [Option.getD_some] at this
  rw [this]; rfl
set_option maxHeartbeats 1000000 in
set_option maxRecDepth 100000 in
theorem rfit_any (a : Option Addr) (n c : Nat) (l : List Int) (m : Nat) (w : World) (ha : BAt w a n l) (hm : m ≤ 65536) :
    Calls Try.prog 40 #[.slice a n c, .int .i64 m] w (NewB m (Str.fit l m) w) := by
  have HA := Lib.hid ha; clear ha
  go_enter Try.func40, Try.ntmps40
  go_wp2
  go_loopw [5, 6] (fun s i wr => ∃ (k : Nat) (a' : Option Addr) (c' : Nat), k ≤ m ∧ i = .int .i64 k ∧ s = .slice a' k c' ∧ Hid (Own wr w.heap.size a' k c' ((Str.fit l m).take k) ∧ Below w.heap.size w wr)) (fun _ i _ => m - (intOf i).toNat)
  case atStart => exact ⟨0, _, _, Nat.zero_le _, rfl, rfl, Lib.hid ⟨own_nil w _ (Nat.le_refl _), (Below.refl _ w).alloc (Nat.le_refl _) _⟩⟩
  case round =>
    obtain ⟨k, a', c', hk, rfl, rfl, HW⟩ := hrel
    by_cases hlt : k < m
    · have h1 : (k : Int) < (m : Int) := by omega
      have hatA := at_any a n c l k wr (HA.out.below HW.out.2) (by omega)
      have hby := HA.out.ok k
      have hsn := fit_take_snoc l m k hlt
      generalize l.getD k 0 = x at hatA hby hsn
      obtain ⟨a5, c5, w5, hrun, hO5, hB5⟩ := append_one wr 22 w.heap.size a' k c' _ HW.out.1 x hby (by omega) HW.out.2.size
      have HATA := Lib.hid hatA; have HSN := Lib.hid hsn; have HRUN := Lib.hid hrun; have HO5 := Lib.hid hO5; have HB5 := Lib.hid hB5
      clear hatA hsn hby hrun hO5 hB5
      go_wp2_with (first
        | (go_at_call 69; (with_reducible refine (HATA.out).mono ?_); rintro e w' ⟨rfl, rfl⟩)
        | (at_builtin; refine Lib.wpList_append_run _ rfl (.tmp 13) (.tmp 17) 22 22 rfl (.slice a' k c') _ (by rfl) (by rfl) _ _ HRUN.out ?_))
      go_roundw
      case rel => exact ⟨k + 1, a5, c5, by omega, by go_num, rfl, Lib.hid ⟨HSN.out ▸ HO5.out, HW.out.2.trans HB5.out⟩⟩
      case measure => simp [intOf]; omega
    · have h1 : ¬ (k : Int) < (m : Int) := by omega
      obtain rfl : k = m := by omega
      go_wp2
      go_ret
      have hO := HW.out.1
      rw [List.take_of_length_le (by rw [Str.fit_len]; exact Nat.le_refl _)] at hO
      exact ⟨_, _, rfl, hO, HW.out.2⟩
theorem held_any (n lo hi : Int) (w : World) :
    Calls Try.prog 41 #[.int .i64 n, .int .i64 lo, .int .i64 hi] w (SameV (.int .i64 (if n < lo then lo else if hi < n then hi else n)) w) := by
  by_cases h1 : n < lo
  · rw [if_pos h1]
    go_enter Try.func41, Try.ntmps41
    go_wp2
    go_ret
    exact ⟨rfl, rfl⟩
  · rw [if_neg h1]
    by_cases h2 : hi < n
    · rw [if_pos h2]
      go_enter Try.func41, Try.ntmps41
      go_wp2
      go_ret
      exact ⟨rfl, rfl⟩
    · rw [if_neg h2]
      go_enter Try.func41, Try.ntmps41
      go_wp2
      go_ret
      exact ⟨rfl, rfl⟩
set_option maxHeartbeats 1000000 in
set_option maxRecDepth 100000 in
theorem copy_any (a : Option Addr) (n c : Nat) (l : List Int) (w : World) (ha : BAt w a n l) (hn : n ≤ 140737488355327) :
    Calls Try.prog 11 #[.slice a n c] w (NewB n l w) := by
  have e1 := ha.len
  have HA := Lib.hid ha; have E1 := Lib.hid e1; clear ha e1
  go_enter Try.func11, Try.ntmps11
  go_wp2
  go_loopw [3, 4] (fun s i wr => ∃ (k : Nat) (a' : Option Addr) (c' : Nat), k ≤ n ∧ i = .int .i64 k ∧ s = .slice a' k c' ∧ Hid (Own wr w.heap.size a' k c' (l.take k) ∧ Below w.heap.size w wr)) (fun _ i _ => n - (intOf i).toNat)
  case atStart => exact ⟨0, _, _, Nat.zero_le _, rfl, rfl, Lib.hid ⟨own_nil w _ (Nat.le_refl _), (Below.refl _ w).alloc (Nat.le_refl _) _⟩⟩
  case round =>
    obtain ⟨k, a', c', hk, rfl, rfl, HW⟩ := hrel
    by_cases hlt : k < n
    · have h1 : (k : Int) < (n : Int) := by omega
      obtain ⟨b, o, hr⟩ := (HA.out.below HW.out.2).row
      obtain ⟨rfl, _, d, q1, q2⟩ := hr k hlt
      have hsn : l.take k ++ [l.getD k 0] = l.take (k + 1) := by
        rw [List.take_add_one, List.getD_eq_getElem?_getD, List.getElem?_eq_getElem (by rw [E1.out]; exact hlt)]; rfl
      generalize l.getD k 0 = x at d q1 q2 hsn
      obtain ⟨a5, c5, w5, hrun, hO5, hB5⟩ := append_one wr 22 w.heap.size a' k c' _ HW.out.1 x ⟨q1, q2⟩ (by omega) HW.out.2.size
      have HSN := Lib.hid hsn; have HRUN := Lib.hid hrun; have HO5 := Lib.hid hO5; have HB5 := Lib.hid hB5
      clear hsn hrun hO5 hB5 hr
      go_wp2_with (at_builtin; refine Lib.wpList_append_run _ rfl (.tmp 12) (.tmp 17) 22 22 rfl (.slice a' k c') _ (by rfl) (by rfl) _ _ HRUN.out ?_)
      go_roundw
      case rel => exact ⟨k + 1, a5, c5, by omega, by go_num, rfl, Lib.hid ⟨HSN.out ▸ HO5.out, HW.out.2.trans HB5.out⟩⟩
      case measure => simp [intOf]; omega
    · have h1 : ¬ (k : Int) < (n : Int) := by omega
      obtain rfl : k = n := by omega
      go_wp2
      go_ret
      have hO := HW.out.1
      rw [List.take_of_length_le (by rw [E1.out]; exact Nat.le_refl _)] at hO
      exact ⟨_, _, rfl, hO, HW.out.2⟩
end Go.Proofs.Ythfiahdeggmmcaa

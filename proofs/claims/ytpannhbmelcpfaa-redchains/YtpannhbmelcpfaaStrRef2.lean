
/-
  The reference of layer 4, further: Xor, Gap, Fit; confluxref02.Held; confluxref01.Copy.
-/
import Derived.Test.YtpannhbmelcpfaaStrRef
namespace Go.Proofs.Ytpannhbmelcpfaa
open Go.RowKit Go.Shelf
set_option linter.unusedVariables false
theorem own_nil (W : World) (base : Nat) (hb : base ≤ W.heap.size) : Own (W.alloc (.cells #[] 5)) base (some ⟨W.heap.size, 0, none⟩) 0 0 [] :=
  ⟨⟨rfl, .inr ⟨W.heap.size, 0, #[], rfl, hb, heap_alloc_new W _, Nat.le_refl _, Nat.zero_le _, rfl, rfl⟩⟩, Str.ok_nil⟩
/-- append(s, x) of one byte, as the builtin makes it. -/
theorem append_one (W : World) (ty : TypeId) (base : Nat) (a : Option Addr) (n c : Nat) (l : List Int) (h : Own W base a n c l) (x : Int) (hx : 0 ≤ x ∧ x < 256) (hlim : n + 1 ≤ 140737488355328) (hbase : base ≤ W.heap.size) :
    ∃ a' c' w', (Builtin.append_ #[25, 25] ty #[.slice a n c, .slice (some ⟨W.heap.size, 0, none⟩) 1 1]).run Try.prog (W.alloc (.cells #[.int .u8 x] 5)) = .ok (.slice a' (n + 1) c') w' ∧
      Own w' base a' (n + 1) c' (l ++ [x]) ∧ Below base W w' := by
  have hb0 : Below W.heap.size W (W.alloc (.cells #[.int .u8 x] 5)) := (Below.refl _ W).alloc (Nat.le_refl _) _
  obtain ⟨a', c', w', hr, ho, hg, _⟩ := append_bytes (W.alloc (.cells #[.int .u8 x] 5)) ty base a n c l (h.below hb0) (some ⟨W.heap.size, 0, none⟩) 1 1 [x] (lit_bat (l := [x]) (heap_alloc_new W _) (fun i => by cases i with | zero => exact hx | succ i => simp) (by simp)) hlim (by simp; omega)
  refine ⟨a', c', w', hr, ho, ((hb0.mono hbase).trans ((Below.refl _ _).grown hg (by simp; omega) (fun k e => ?_)))⟩
  cases a with
  | none => cases e
  | some y => have := (h.blk y rfl).1; simp at e; omega
theorem xor_take_snoc (a b : List Int) (k : Nat) (h : k < max a.length b.length) : (Str.xor a b).take k ++ [Str.bx (a.getD k 0) (b.getD k 0)] = (Str.xor a b).take (k + 1) := by
  have hk : k < (Str.xor a b).length := by rw [Str.xor_len]; exact h
  rw [List.take_add_one, List.getElem?_eq_getElem hk]
  have := Str.xor_at a b k
  rw [List.getD_eq_getElem?_getD, List.getElem?_eq_getElem hk] at this
  simp only [Option.getD_some] at this
  rw [this]; rfl
theorem fit_take_snoc (l : List Int) (m k : Nat) (h : k < m) : (Str.fit l m).take k ++ [l.getD k 0] = (Str.fit l m).take (k + 1) := by
  have hk : k < (Str.fit l m).length := by rw [Str.fit_len]; exact h
  rw [List.take_add_one, List.getElem?_eq_getElem hk]
  have := Str.fit_at l m k
  rw [if_pos h, List.getD_eq_getElem?_getD, List.getElem?_eq_getElem hk] at this
  simp only [Option.getD_some] at this
  rw [this]; rfl
set_option maxHeartbeats 1000000 in
set_option maxRecDepth 100000 in
theorem copy_any (a : Option Addr) (n c : Nat) (l : List Int) (w : World) (ha : BAt w a n l) (hn : n ≤ 140737488355327) :
    Calls Try.prog 29 #[.slice a n c] w (NewB n l w) := by
  have e1 := ha.len
  have HA := Lib.hid ha; have E1 := Lib.hid e1; clear ha e1
  go_enter Try.func29, Try.ntmps29
  go_wp2
  go_loopw [3, 4] (fun s i wr => ∃ (k : Nat) (a' : Option Addr) (c' : Nat), k ≤ n ∧ i = .int .i64 k ∧ s = .slice a' k c' ∧ Hid (Own wr w.heap.size a' k c' (l.take k) ∧ Below w.heap.size w wr)) (fun _ i _ => n - (intOf i).toNat)
  case atStart => exact ⟨0, _, _, Nat.zero_le _, rfl, rfl, Lib.hid ⟨own_nil w _ (Nat.le_refl _), (Below.refl _ w).alloc (Nat.le_refl _) _⟩⟩
  case round =>
    obtain ⟨k, a', c', hk, rfl, rfl, HW⟩ := hrel
    by_cases hlt : k < n
    · have h1 : (k : Int) < (n : Int) := by omega
      obtain ⟨b, o, hr⟩ := (HA.out.below HW.out.2).row
      obtain ⟨rfl, _, d, q1, q2⟩ := hr k hlt
      have hsn : l.take k ++ [l.getD k 0] = l.take (k + 1) := by
        rw [List.take_add_one, List.getD_eq_getElem?_getD, List.getElem?_eq_getElem (by rw [E1.out]; exact hlt)]; rfl
      generalize l.getD k 0 = x at d q1 q2 hsn
      obtain ⟨a5, c5, w5, hrun, hO5, hB5⟩ := append_one wr 25 w.heap.size a' k c' _ HW.out.1 x ⟨q1, q2⟩ (by omega) HW.out.2.size
      have HSN := Lib.hid hsn; have HRUN := Lib.hid hrun; have HO5 := Lib.hid hO5; have HB5 := Lib.hid hB5
      clear hsn hrun hO5 hB5 hr
      go_wp2_with (at_builtin; refine Lib.wpList_append_run _ rfl (.tmp 12) (.tmp 17) 25 25 rfl (.slice a' k c') _ (by rfl) (by rfl) _ _ HRUN.out ?_)
      go_roundw
      case rel => exact ⟨k + 1, a5, c5, by omega, by go_num, rfl, Lib.hid ⟨HSN.out ▸ HO5.out, HW.out.2.trans HB5.out⟩⟩
      case measure => simp [intOf]; omega
    · have h1 : ¬ (k : Int) < (n : Int) := by omega
      obtain rfl : k = n := by omega
      go_wp2
      go_ret
      have hO := HW.out.1
      rw [List.take_of_length_le (by rw [E1.out]; exact Nat.le_refl _)] at hO
      exact ⟨_, _, rfl, hO, HW.out.2⟩
end Go.Proofs.Ytpannhbmelcpfaa

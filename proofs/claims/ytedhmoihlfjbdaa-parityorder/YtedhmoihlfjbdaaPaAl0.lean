
/-
  confluxlaw13.alive: what it calls.
-/
import Derived.Test.YtedhmoihlfjbdaaPaHolds
import Derived.Test.YtedhmoihlfjbdaaPaBlock
import Derived.Test.YtedhmoihlfjbdaaPaNumbers
import Derived.Test.YtedhmoihlfjbdaaRtpEnc
namespace Go.Proofs.Ytedhmoihlfjbdaa
open Go.RowKit Go.Shelf
set_option linter.unusedVariables false
def pk1 : List Int := [128, 96, 255, 255, 0, 0, 0, 2, 0, 0, 0, 3, 97, 98]
def pk2 : List Int := [128, 96, 0, 0, 0, 0, 0, 2, 0, 0, 0, 3, 98]
/-- A row of repairs, cell by cell. -/
theorem WRow.rp {W : World} {base : Nat} {a : Option Addr} {i c : Nat} {h : Nat → Nat → Int} {B : Nat → Int} {X : Nat → Nat} {A : Nat → Option Addr} {bs : Nat → List Int} {C : Nat → Nat} (hr : WRow W base a i c h B X A bs C) (hX : ∀ k, k < i → Mk.Ok (X k)) : RpAt W a i h B X A (fun k => (bs k).length) C := by
  rcases hr.row.2 with ⟨hv, rfl⟩ | ⟨g, cap, cur, hv, hb, hg, h1, h2, h3, h4⟩
  · exact ⟨0, 0, fun k hk => by omega⟩
  · simp only [Value.slice.injEq, true_and] at hv
    obtain ⟨rfl, rfl⟩ := hv
    refine ⟨g, 0, fun k hk => ⟨rfl, (Array.getElem?_eq_some_iff.1 hg).1, hX k hk, fun j hj => ?_⟩⟩
    rw [cell_of_row W g _ _ _ _ hg, ← rcells_at h B X A bs C i k hk j hj, ← h4, List.getElem?_take, if_pos (by have := rcells_len h B X A bs C i; omega), Array.getElem?_toList, Nat.zero_add]
theorem bcomp {A B C : World} (h : Below A.heap.size A B) (h' : Below B.heap.size B C) : Below A.heap.size A C := h.trans (h'.mono h.size)
set_option maxHeartbeats 1000000 in
set_option maxRecDepth 100000 in
theorem two_any (w : World) : Calls Try.prog 54 #[] w fun e w' => ∃ a c, e = .returned (.slice a 2 c) ∧ PksAt w' a 2 [pk1, pk2] ∧ 2 ≤ c ∧ Below w.heap.size w w' := by
  obtain ⟨w1, hw1⟩ : ∃ w1, w.alloc (.cells #[.int .u8 128, .int .u8 96, .int .u8 255, .int .u8 255, .int .u8 0, .int .u8 0, .int .u8 0, .int .u8 2, .int .u8 0, .int .u8 0, .int .u8 0, .int .u8 3, .int .u8 97, .int .u8 98] 5 (14, 15)) = w1 := ⟨_, rfl⟩
  have hb1 : BAt w1 (some ⟨w.heap.size, 0, none⟩) 14 pk1 := by rw [← hw1]; exact lit_bat' (l := pk1) (heap_alloc_new w _) (ok_lit rfl) (by decide)
  have B01 : Below w.heap.size w w1 := by rw [← hw1]; exact (Below.refl _ w).alloc (Nat.le_refl _) _
  have hcv := Lib.run_convert_bytes_const (P := Try.prog) w 26 5 #[.int .u8 128, .int .u8 96, .int .u8 255, .int .u8 255, .int .u8 0, .int .u8 0, .int .u8 0, .int .u8 2, .int .u8 0, .int .u8 0, .int .u8 0, .int .u8 3, .int .u8 97, .int .u8 98] 14 14 Try.underlying26 Try.underlying5
  obtain ⟨w2, hw2⟩ : ∃ w2, w1.alloc (.cells #[.int .u8 128, .int .u8 96, .int .u8 0, .int .u8 0, .int .u8 0, .int .u8 0, .int .u8 0, .int .u8 2, .int .u8 0, .int .u8 0, .int .u8 0, .int .u8 3, .int .u8 98] 5 (13, 14)) = w2 := ⟨_, rfl⟩
  have hb2 : BAt w2 (some ⟨w1.heap.size, 0, none⟩) 13 pk2 := by rw [← hw2]; exact lit_bat' (l := pk2) (heap_alloc_new w1 _) (ok_lit rfl) (by decide)
  have B12 : Below w1.heap.size w1 w2 := by rw [← hw2]; exact (Below.refl _ w1).alloc (Nat.le_refl _) _
  have hcv2 := Lib.run_convert_bytes_const (P := Try.prog) w1 26 5 #[.int .u8 128, .int .u8 96, .int .u8 0, .int .u8 0, .int .u8 0, .int .u8 0, .int .u8 0, .int .u8 2, .int .u8 0, .int .u8 0, .int .u8 0, .int .u8 3, .int .u8 98] 13 13 Try.underlying26 Try.underlying5
  simp only [List.size_toArray, List.length_cons, List.length_nil, Nat.reduceAdd] at hcv hcv2
  rw [hw1] at hcv
  rw [hw2] at hcv2
  have HB1 := Lib.hid (hb1.below B12); have HB2 := Lib.hid hb2; have B02 := Lib.hid (bcomp B01 B12)
  clear hb1 hb2 B01 B12 hw1 hw2
  go_enter Try.func54, Try.ntmps54
  go_wp2_with fail
  refine bodyPost_ret (v := .slice (some ⟨w2.heap.size, 0, none⟩) 2 2) (by simp [results, Try.results54, go_sem]) rfl ⟨_, _, rfl, ?_, by omega, B02.out.alloc B02.out.size _⟩
  have hbel : Below w2.heap.size w2 (w2.alloc (.cells #[.slice (some ⟨w.heap.size, 0, none⟩) 14 14, .slice (some ⟨w1.heap.size, 0, none⟩) 13 13] 26)) := (Below.refl _ w2).alloc (Nat.le_refl _) _
  refine ⟨rfl, w2.heap.size, 0, fun k => if k = 0 then some ⟨w.heap.size, 0, none⟩ else some ⟨w1.heap.size, 0, none⟩, fun k => if k = 0 then 14 else 13, fun k => if k = 0 then 14 else 13, fun k hk => ?_⟩
  match k, hk with
  | 0, _ => exact ⟨rfl, by simp, by simp [go_sem], HB1.out.below hbel, by simp, by simp⟩
  | 1, _ => exact ⟨rfl, by simp, by simp [go_sem], HB2.out.below hbel, by simp, by simp⟩
theorem code_two : Pa.code [pk1, pk2] = 0 := by decide +kernel
theorem code_one : Pa.code [pk1] = 0 := by decide +kernel
theorem code_snd : Pa.code [pk2] = 0 := by decide +kernel
theorem base_two : Pa.base [pk1, pk2] = 65535 := by decide +kernel
theorem base_snd : Pa.base [pk2] = 0 := by decide +kernel
theorem X_two : Pa.X [pk1, pk2] = 3 * 2 ^ 126 := by decide +kernel
theorem body_two : Pa.body [pk1, pk2] = [3, 98] := by decide +kernel
theorem head_two : Pa.head [pk1, pk2] = [0, 0, 0, 0, 0, 0, 0, 3] := by decide +kernel
theorem code_nil : Pa.code [] = 4 := by decide +kernel
theorem wok_11 : Pa.wok 2 [1, 1] 2 = false := by decide +kernel
theorem wok_1 : Pa.wok 2 [1] 1 = true := by decide +kernel
theorem code_pick1 : Pa.code (Pa.pick [pk1, pk2] [1] 1) = 0 := by decide +kernel
theorem base_pick1 : Pa.base (Pa.pick [pk1, pk2] [1] 1) = 0 := by decide +kernel
theorem bcode_al : Pa.bcode [pk1, pk2] [[0, 1], [0]] 2 = 0 := by decide +kernel
theorem bits_al : (Mk.bits (Pa.bx [pk1, pk2] [[0, 1], [0]] 0)).length = 2 := by decide +kernel
theorem holds_yes : Pa.holds (fun j => [0, 0, 0, 0, 0, 0, 0, 3].getD j 0) 65535 (3 * 2 ^ 126) [3, 98] [pk1, pk2] = true := by decide +kernel
theorem holds_no : Pa.holds (fun j => [0, 0, 0, 0, 0, 0, 0, 3].getD j 0) 65535 (3 * 2 ^ 126) [3, 98] [pk1] = false := by decide +kernel
theorem H_two : Mk.H (3 * 2 ^ 126) = 13835058055282163712 := by decide +kernel
theorem L_two : Mk.L (3 * 2 ^ 126) = 0 := by decide +kernel
theorem H_zero : Mk.H 0 = 0 := by decide +kernel
theorem L_zero : Mk.L 0 = 0 := by decide +kernel
/-- Makes a repair of the two. -/
theorem al_make (ap : Option Addr) (cp : Nat) (w : World) (h : PksAt w ap 2 [pk1, pk2]) : Calls Try.prog 15 #[.slice ap 2 cp] w fun e w' => ∃ ar cr, e = .returned (.tuple #[.agg #[.int .u8 0, .int .u8 0, .int .u8 0, .int .u8 0, .int .u8 0, .int .u8 0, .int .u8 0, .int .u8 3, .int .u16 65535, .int .u64 13835058055282163712, .int .u64 0, .slice ar 2 cr], .int .i64 0]) ∧ Own w' w.heap.size ar 2 cr [3, 98] ∧ Below w.heap.size w w' := by
  refine (make_any ap 2 cp _ w h (by omega)).mono ?_
  rintro e w2 h2
  obtain ⟨ar, cr, rfl, hO2, hB2⟩ := h2.2 code_two
  rw [body_two, head_two, base_two, X_two] at *
  refine ⟨ar, cr, ?_, hO2, hB2⟩
  simp only [rpc, List.getD_cons_zero, List.getD_cons_succ, List.length_cons, List.length_nil, Nat.zero_add, Nat.reduceAdd]
  rw [H_two, L_two]; rfl
theorem al_nil (w : World) : Calls Try.prog 15 #[.slice none 0 0] w (ValB (.tuple #[.agg #[.int .u8 0, .int .u8 0, .int .u8 0, .int .u8 0, .int .u8 0, .int .u8 0, .int .u8 0, .int .u8 0, .int .u16 0, .int .u64 0, .int .u64 0, .slice none 0 0], .int .i64 4]) w) := by
  refine (make_any none 0 0 [] w (PksAt.noPks _ _) (by omega)).mono ?_
  rintro e w2 h2
  obtain ⟨rfl, hB2⟩ := h2.1 (by rw [code_nil]; decide)
  refine ⟨?_, hB2⟩
  rw [code_nil]; unfold rpc; rw [H_zero, L_zero]; rfl
theorem al_some (ap : Option Addr) (cp : Nat) (aw : Option Addr) (w : World) (h : PksAt w ap 2 [pk1, pk2]) (hz : Ints aw 1 [1] w) : Calls Try.prog 17 #[.slice ap 2 cp, .slice aw 1 1] w fun e w' => ∃ q0 q1 q2 q3 q4 q5 q6 q7 H L a n c, e = .returned (.tuple #[.agg #[.int .u8 q0, .int .u8 q1, .int .u8 q2, .int .u8 q3, .int .u8 q4, .int .u8 q5, .int .u8 q6, .int .u8 q7, .int .u16 0, .int .u64 H, .int .u64 L, .slice a n c], .int .i64 0]) ∧ Below w.heap.size w w' := by
  refine (some_any ap 2 cp _ aw 1 1 [1] w h (by omega) hz (by simp) (by omega)).mono ?_
  rintro e w2 h2
  obtain ⟨a, c, rfl, _, hB2⟩ := (h2.2 wok_1).2 code_pick1
  rw [base_pick1]
  exact ⟨_, _, _, _, _, _, _, _, _, _, _, _, _, rfl, hB2⟩
theorem al_twice (ap : Option Addr) (cp : Nat) (aw : Option Addr) (w : World) (h : PksAt w ap 2 [pk1, pk2]) (hz : Ints aw 2 [1, 1] w) : Calls Try.prog 17 #[.slice ap 2 cp, .slice aw 2 2] w (ValB (.tuple #[.agg #[.int .u8 0, .int .u8 0, .int .u8 0, .int .u8 0, .int .u8 0, .int .u8 0, .int .u8 0, .int .u8 0, .int .u16 0, .int .u64 0, .int .u64 0, .slice none 0 0], .int .i64 1]) w) := by
  refine (some_any ap 2 cp _ aw 2 2 [1, 1] w h (by omega) hz (by simp) (by omega)).mono ?_
  rintro e w2 h2
  obtain ⟨rfl, hB2⟩ := h2.1 wok_11
  refine ⟨?_, hB2⟩
  unfold rpc; rw [H_zero, L_zero]; rfl
theorem al_block (ap : Option Addr) (cp : Nat) (aw : Option Addr) (cw : Nat) (w : World) (h : PksAt w ap 2 [pk1, pk2]) (hz : ShAt w aw 2 [[0, 1], [0]]) : Calls Try.prog 21 #[.slice ap 2 cp, .slice aw 2 cw] w fun e w' => ∃ a c A N C, e = .returned (.tuple #[.slice a 2 c, .int .i64 0]) ∧ RpAt w' a 2 (Pa.bh [pk1, pk2] [[0, 1], [0]]) (Pa.bb [pk1, pk2] [[0, 1], [0]]) (Pa.bx [pk1, pk2] [[0, 1], [0]]) A N C ∧ Below w.heap.size w w' := by
  refine (block_any ap 2 cp _ aw 2 cw _ w h (by omega) hz (by omega)).mono ?_
  rintro e w2 h2
  obtain ⟨a, c, A, C, rfl, hW, hB2⟩ := h2.2 bcode_al
  exact ⟨a, c, A, _, C, rfl, hW.rp (fun i _ => Cv.m_ok _ _ _), hB2⟩
theorem al_numbers (a : Option Addr) (c : Nat) (A : Nat → Option Addr) (N C : Nat → Nat) (w : World) (h : RpAt w a 2 (Pa.bh [pk1, pk2] [[0, 1], [0]]) (Pa.bb [pk1, pk2] [[0, 1], [0]]) (Pa.bx [pk1, pk2] [[0, 1], [0]]) A N C) : Calls Try.prog 23 #[.slice a 2 c] w fun e w' => ∃ g c' x y, e = .returned (.slice (some ⟨g, 0, none⟩) 2 c') ∧ w'.cell? ⟨g, 0, none⟩ = some (.slice x 2 y) ∧ w.heap.size ≤ g ∧ g < w'.heap.size ∧ Below w.heap.size w w' := by
  refine (numbers_any a 2 c _ _ _ A N C w h (by omega)).mono ?_
  rintro e w2 ⟨a', c', A', C', rfl, hN, hB2⟩
  obtain ⟨g, rfl, h1, h2, h3⟩ := own_cell hN.row (i := 0) (x := .slice (A' 0) (Cv.seqs (Pa.bb [pk1, pk2] [[0, 1], [0]] 0) (Pa.bx [pk1, pk2] [[0, 1], [0]] 0)).length (C' 0)) rfl
  refine ⟨g, c', A' 0, C' 0, rfl, ?_, h1, h2, hB2⟩
  rw [h3, show (Cv.seqs (Pa.bb [pk1, pk2] [[0, 1], [0]] 0) (Pa.bx [pk1, pk2] [[0, 1], [0]] 0)).length = 2 from by unfold Cv.seqs; rw [List.length_map]; exact bits_al]
theorem al_bytes (ar : Option Addr) (cr : Nat) (w : World) (h : BAt w ar 2 [3, 98]) : Calls Try.prog 30 #[.agg #[.int .u8 0, .int .u8 0, .int .u8 0, .int .u8 0, .int .u8 0, .int .u8 0, .int .u8 0, .int .u8 3, .int .u16 65535, .int .u64 13835058055282163712, .int .u64 0, .slice ar 2 cr]] w fun e w' => ∃ a c, e = .returned (.agg #[.int .u8 0, .int .u8 0, .int .u8 0, .int .u8 0, .int .u8 0, .int .u8 0, .int .u8 0, .int .u8 3, .slice a 2 c]) ∧ Below w.heap.size w w' := by
  have h1 := pbytes_any (fun j => [0, 0, 0, 0, 0, 0, 0, 3].getD j 0) 65535 (3 * 2 ^ 126) ar 2 cr [3, 98] w (by decide) h (by omega)
  unfold rpc at h1
  rw [H_two, L_two] at h1
  refine h1.mono ?_
  rintro e w2 ⟨a, c, rfl, _, hB⟩
  exact ⟨a, c, rfl, hB⟩
theorem al_holds (ar : Option Addr) (cr : Nat) (a : Option Addr) (len c : Nat) (ls : List (List Int)) (b : Bool) (w : World) (h : BAt w ar 2 [3, 98]) (hp : PksAt w a len ls) (hl : len ≤ 1000) (hb : Pa.holds (fun j => [0, 0, 0, 0, 0, 0, 0, 3].getD j 0) 65535 (3 * 2 ^ 126) [3, 98] ls = b) : Calls Try.prog 26 #[.agg #[.int .u8 0, .int .u8 0, .int .u8 0, .int .u8 0, .int .u8 0, .int .u8 0, .int .u8 0, .int .u8 3, .int .u16 65535, .int .u64 13835058055282163712, .int .u64 0, .slice ar 2 cr], .slice a len c] w (ValB (.bool b) w) := by
  have h1 := holds_any (fun j => [0, 0, 0, 0, 0, 0, 0, 3].getD j 0) 65535 (3 * 2 ^ 126) ar 2 cr [3, 98] a len c ls w hp (by omega) (fun j => by
    match j with
    | 0 | 1 | 2 | 3 | 4 | 5 | 6 | 7 => decide
    | j + 8 => simp) h (by omega)
  unfold rpc at h1
  rw [H_two, L_two, hb] at h1
  exact h1
end Go.Proofs.Ytedhmoihlfjbdaa


/-
  ImprintAlike: the plain side.
-/
import Derived.Test.YtppgjodehphaeaaIbAl
import Derived.Test.YtppgjodehphaeaaRtpField
namespace Go.Proofs.Ytppgjodehphaeaa
open Go.RowKit Go.Shelf
set_option linter.unusedVariables false
set_option linter.unusedSimpArgs false
theorem drop_split (l : List Int) (k : Nat) (h : 12 ≤ k) : l.drop k = (l.drop 12).drop (k - 12) := by rw [List.drop_drop]; congr 1; omega
theorem pcode_alike {n : Nat} {l l' : List Int} (h0 : l'.getD 0 0 = l.getD 0 0) (hd : l'.drop 12 = l.drop 12) : pcode n l' = pcode n l := by
  have e1 : pnc l' = pnc l := by unfold pnc; rw [h0]
  have e2 : pext l' = pext l := by unfold pext; rw [h0]
  have e3 : ppad l' = ppad l := by unfold ppad; rw [h0]
  have e4 : pat1 l' = pat1 l := by unfold pat1; rw [e1]
  have hg : 12 ≤ pat1 l := by unfold pat1; omega
  have e5 : pwd l' = pwd l := by unfold pwd; rw [e4, drop_split l' _ (by omega), drop_split l (pat1 l + 2) (by omega), hd]
  have e6 : pat2 l' = pat2 l := by unfold pat2; rw [e2, e4, e5]
  have hg2 : 12 ≤ pat2 l := by unfold pat2; split <;> omega
  have e7 : ptail l' = ptail l := by unfold ptail; rw [e6, drop_split l' _ hg2, drop_split l _ hg2, hd]
  unfold pcode
  rw [h0, e4, e2, e6, e3, e7]
theorem pcodeF_alike {n : Nat} {l l' : List Int} (h0 : l'.getD 0 0 = l.getD 0 0) (hd : l'.drop 12 = l.drop 12) : pcodeF n l' = pcodeF n l := by
  unfold pcodeF; rw [pcode_alike h0 hd]
theorem pcodeF_v' {n : Nat} {l : List Int} (h : pcodeF n l = 0) : l.getD 0 0 / 64 = 2 := by
  unfold pcodeF at h
  split at h
  · cases h
  · unfold pcode at h
    by_cases e : l.getD 0 0 / 64 = 2
    · exact e
    · rw [if_pos e] at h
      split at h <;> cases h
/-- The bytes of the packet of an imprint with another number and another source. -/
def alk (l : List Int) (sq ss : Int) : List Int := ipb (l.getD 0 0 % 64) (l.getD 1 0) (l.getD 4 0) (l.getD 5 0) (l.getD 6 0) (l.getD 7 0) (((l.length - 12 : Nat) : Int) / 256) (((l.length - 12 : Nat) : Int) % 256) (l.drop 12) (l.length - 12) sq ss
theorem alk_len {l : List Int} (h1 : 12 ≤ l.length) (sq ss : Int) : (alk l sq ss).length = l.length := by
  unfold alk ipb; simp [Big_len]; omega
theorem alk_drop {l : List Int} (sq ss : Int) : (alk l sq ss).drop 12 = l.drop 12 := by
  unfold alk ipb
  rw [Big2, Big4]
  simp only [List.cons_append, List.nil_append, List.drop_succ_cons, List.drop_zero]
  exact List.take_of_length_le (by rw [List.length_drop]; exact Nat.le_refl _)
theorem alk_0 {l : List Int} (ho : Str.Ok l) (hv : l.getD 0 0 / 64 = 2) (sq ss : Int) : (alk l sq ss).getD 0 0 = l.getD 0 0 := by
  have := ho 0
  unfold alk ipb
  simp only [List.cons_append, List.getD_cons_zero]
  omega
theorem alk_1 {l : List Int} (sq ss : Int) : (alk l sq ss).getD 1 0 = l.getD 1 0 := rfl
theorem alk_4 {l : List Int} (sq ss : Int) : (alk l sq ss).getD 4 0 = l.getD 4 0 := by unfold alk ipb; rw [Big2]; rfl
theorem alk_5 {l : List Int} (sq ss : Int) : (alk l sq ss).getD 5 0 = l.getD 5 0 := by unfold alk ipb; rw [Big2]; rfl
theorem alk_6 {l : List Int} (sq ss : Int) : (alk l sq ss).getD 6 0 = l.getD 6 0 := by unfold alk ipb; rw [Big2]; rfl
theorem alk_7 {l : List Int} (sq ss : Int) : (alk l sq ss).getD 7 0 = l.getD 7 0 := by unfold alk ipb; rw [Big2]; rfl
theorem alk_sq {l : List Int} (sq ss : Int) (h : 0 ≤ sq ∧ sq < 65536) : Num (((alk l sq ss).drop 2).take 2) = sq := by
  have e : ((alk l sq ss).drop 2).take 2 = Big 2 sq := by unfold alk ipb; rw [Big2]; rfl
  rw [e, Big2]; simp [Num]; omega
theorem alk_ss {l : List Int} (sq ss : Int) (h : 0 ≤ ss ∧ ss < 4294967296) : Num (((alk l sq ss).drop 8).take 4) = ss := by
  have e : ((alk l sq ss).drop 8).take 4 = Big 4 ss := by unfold alk ipb; rw [Big2, Big4]; rfl
  rw [e, Big4]; simp [Num]; omega
theorem alk_ihd {l : List Int} (ho : Str.Ok l) (h1 : 12 ≤ l.length) (hv : l.getD 0 0 / 64 = 2) (sq ss : Int) : ihd (alk l sq ss) = ihd l := by
  unfold ihd
  rw [alk_0 ho hv, alk_1, alk_4, alk_5, alk_6, alk_7, alk_len h1]
theorem alk_code {n : Nat} {l : List Int} (ho : Str.Ok l) (hv : l.getD 0 0 / 64 = 2) (h : pcodeF n l = 0) (sq ss : Int) : pcodeF n (alk l sq ss) = 0 := by
  rw [pcodeF_alike (alk_0 ho hv sq ss) (alk_drop sq ss), h]
/-- Packet's answer to the imprint of l. -/
theorem alk_ipc {n : Nat} {l : List Int} (ho : Str.Ok l) (hn : l.length = n) (h : pcodeF n l = 0) (sq ss : Int) :
    ipc (l.getD 0 0 % 64) (l.getD 1 0) (l.getD 4 0) (l.getD 5 0) (l.getD 6 0) (l.getD 7 0) (((l.length - 12 : Nat) : Int) / 256) (((l.length - 12 : Nat) : Int) % 256) (l.drop 12) sq ss = 0 ∧
    ipo (l.getD 0 0 % 64) (l.getD 1 0) (l.getD 4 0) (l.getD 5 0) (l.getD 6 0) (l.getD 7 0) (((l.length - 12 : Nat) : Int) / 256) (((l.length - 12 : Nat) : Int) % 256) (l.drop 12) sq ss = alk l sq ss := by
  have hl := pcodeF_long h
  have e : ipl (((l.length - 12 : Nat) : Int) / 256) (((l.length - 12 : Nat) : Int) % 256) = l.length - 12 := by unfold ipl; omega
  have h1 : ipc (l.getD 0 0 % 64) (l.getD 1 0) (l.getD 4 0) (l.getD 5 0) (l.getD 6 0) (l.getD 7 0) (((l.length - 12 : Nat) : Int) / 256) (((l.length - 12 : Nat) : Int) % 256) (l.drop 12) sq ss = 0 := by
    unfold ipc
    have h2 := alk_code ho (pcodeF_v' h) h sq ss
    unfold alk at h2
    rw [e, if_neg (by rw [List.length_drop]; omega), show 12 + (l.length - 12) = n by omega, if_pos h2]
  refine ⟨h1, ?_⟩
  unfold ipo
  rw [if_pos h1, e]; rfl
theorem gap_self (l : List Int) : Str.gap l l = -1 := Str.gap_none fun _ => rfl
theorem bx1_ne {x : Int} (hx : 0 ≤ x) : Str.bx x 1 ≠ x := fun h => by
  have h1 : Str.bx x (Str.bx x 1) = Str.bx x x := by rw [h]
  rw [← Str.bx_assoc, Str.bx_self, Str.zero_bx (by decide)] at h1
  cases h1
theorem set_at (l : List Int) (k j : Nat) (x : Int) (hk : k < l.length) : (l.set k x).getD j 0 = if k = j then x else l.getD j 0 := by
  rw [List.getD_eq_getElem?_getD, List.getElem?_set, List.getD_eq_getElem?_getD]
  split
  · simp [hk]
  · rfl
theorem odd_ne {l : List Int} (ho : Str.Ok l) (h1 : 12 ≤ l.length) (k : Nat) (hk : k < l.length) (hv : l.getD 0 0 / 64 = 2) (hv' : (l.set k (Str.bx (l.getD k 0) 1)).getD 0 0 / 64 = 2) (hc : k < 2 ∨ 4 ≤ k ∧ k < 8 ∨ 12 ≤ k) :
    ¬ (ihd l = ihd (l.set k (Str.bx (l.getD k 0) 1)) ∧ Str.gap (l.drop 12) ((l.set k (Str.bx (l.getD k 0) 1)).drop 12) < 0) := by
  rintro ⟨h2, h3⟩
  have hne := bx1_ne (ho k).1
  generalize hx : Str.bx (l.getD k 0) 1 = x at *
  have hs := fun j => set_at l k j x hk
  have hg : ∀ j, (l.drop 12).getD j 0 = ((l.set k x).drop 12).getD j 0 := by
    rcases Str.gap_cases (l.drop 12) ((l.set k x).drop 12) with ⟨_, h⟩ | ⟨m, h, _⟩
    · exact h
    · rw [h] at h3; omega
  have hdd : ∀ (q : List Int) (j : Nat), (q.drop 12).getD j 0 = q.getD (12 + j) 0 := fun q j => by simp [List.getD_eq_getElem?_getD, List.getElem?_drop]
  unfold ihd at h2
  injection h2 with e0 h2; injection h2 with e1 h2; injection h2 with e2 h2; injection h2 with e3 h2; injection h2 with e4 h2; injection h2 with e5 h2
  rw [hs] at e0 e1 e2 e3 e4 e5 hv'
  by_cases hb : 12 ≤ k
  · have := hg (k - 12)
    rw [hdd, hdd, hs, show 12 + (k - 12) = k by omega, if_pos rfl] at this
    exact hne this.symm
  · have hk' : k = 0 ∨ k = 1 ∨ k = 4 ∨ k = 5 ∨ k = 6 ∨ k = 7 := by omega
    rcases hk' with rfl | rfl | rfl | rfl | rfl | rfl
    · rw [if_pos rfl] at e0 hv'; exact hne (by omega)
    · rw [if_pos rfl] at e1; exact hne e1.symm
    · rw [if_pos rfl] at e2; exact hne e2.symm
    · rw [if_pos rfl] at e3; exact hne e3.symm
    · rw [if_pos rfl] at e4; exact hne e4.symm
    · rw [if_pos rfl] at e5; exact hne e5.symm
theorem bits_xor1 {x : Int} (hx : 0 ≤ x ∧ x < 256) : bits .xor .u8 x 1 = Str.bx x 1 := Str.bits_xor hx (by decide)
theorem mask4095 (n : Int) : 0 ≤ bits .and .i64 n 4095 ∧ bits .and .i64 n 4095 < 4096 := by
  have e1 : (BitVec.ofInt 64 n &&& BitVec.ofInt 64 4095).toNat = (BitVec.ofInt 64 n).toNat % 4096 := by
    rw [BitVec.toNat_and]; exact Nat.and_two_pow_sub_one_eq_mod _ 12
  have : bits .and .i64 n 4095 = IntKind.i64.wrap ((BitVec.ofInt 64 n &&& BitVec.ofInt 64 4095).toNat : Nat) := rfl
  rw [this, e1, IntKind.wrap_i64]; omega
theorem all2 {a : List Int} (h : Str.Ok a) : Str.all [] [a, a] = a.map (fun _ => 0) := by
  show Str.xor (Str.xor [] a) a = _
  rw [Str.nil_xor h]
  refine getD_ext (by rw [Str.xor_len]; simp) fun i hi => ?_
  rw [Str.xor_at, Str.bx_self]
  by_cases e : i < a.length
  · rw [List.getD_eq_getElem?_getD, List.getElem?_map, List.getElem?_eq_getElem e]; rfl
  · rw [getD_out (by simp; omega)]
theorem all2_gap {a : List Int} (h : Str.Ok a) : Str.gap (Str.all [] [a, a]) [] = -1 := Str.gap_none fun j => by
  rw [all2 h]
  by_cases e : j < a.length
  · rw [List.getD_eq_getElem?_getD, List.getElem?_map, List.getElem?_eq_getElem e]; rfl
  · rw [getD_out (by simp; omega)]; rfl
theorem all2_8 (h : Nat → Int) (hb : ∀ j, 0 ≤ h j ∧ h j < 256) (j : Nat) : (Str.all [] [[h 0, h 1, h 2, h 3, h 4, h 5, h 6, h 7], [h 0, h 1, h 2, h 3, h 4, h 5, h 6, h 7]]).getD j 0 = 0 := by
  have ho : Str.Ok [h 0, h 1, h 2, h 3, h 4, h 5, h 6, h 7] := fun i => by
    rcases i with _ | _ | _ | _ | _ | _ | _ | _ | i
    all_goals first | exact hb _ | exact ⟨by simp, by simp⟩
  rw [all2 ho]
  rcases j with _ | _ | _ | _ | _ | _ | _ | _ | j
  all_goals simp
def TrueA (w : World) (e : Ending) (w' : World) : Prop := e = .returned (.bool true) ∧ Below w.heap.size w w'
def ZeroOut (w : World) (e : Ending) (w' : World) : Prop :=
  ∃ ab nb cb lz, e = .returned (.agg #[.int .u8 0, .int .u8 0, .int .u8 0, .int .u8 0, .int .u8 0, .int .u8 0, .int .u8 0, .int .u8 0, .slice ab nb cb]) ∧ Own w' w.heap.size ab nb cb lz ∧ Str.gap lz [] = -1 ∧ Below w.heap.size w w'
theorem iadd_self (h : Nat → Int) (a b : Option Addr) (n m c d : Nat) (la : List Int) (w : World) (ha : BAt w a n la) (hb : BAt w b m la) (hxb : ∀ j, 0 ≤ h j ∧ h j < 256) (hn : n ≤ 100000) (hm : m ≤ 100000) :
    Calls Try.prog 16 #[.agg #[.int .u8 (h 0), .int .u8 (h 1), .int .u8 (h 2), .int .u8 (h 3), .int .u8 (h 4), .int .u8 (h 5), .int .u8 (h 6), .int .u8 (h 7), .slice a n c], .agg #[.int .u8 (h 0), .int .u8 (h 1), .int .u8 (h 2), .int .u8 (h 3), .int .u8 (h 4), .int .u8 (h 5), .int .u8 (h 6), .int .u8 (h 7), .slice b m d]] w (ZeroOut w) := by
  refine (iadd_any h h a b n m c d la la w ha hb hxb hxb hn hm).mono ?_
  rintro e w' ⟨ab, cb, rfl, hO, hB⟩
  refine ⟨ab, _, cb, _, ?_, hO, all2_gap ha.ok, hB⟩
  rw [all2_8 h hxb 0, all2_8 h hxb 1, all2_8 h hxb 2, all2_8 h hxb 3, all2_8 h hxb 4, all2_8 h hxb 5, all2_8 h hxb 6, all2_8 h hxb 7]
/-- An imprint in its box. -/
def Bx (W : World) (P : Nat) (q0 q1 q2 q3 q4 q5 q6 q7 : Int) (a : Option Addr) (n c : Nat) : Prop := W.heap[P]? = some (.cells #[.int .u8 q0, .int .u8 q1, .int .u8 q2, .int .u8 q3, .int .u8 q4, .int .u8 q5, .int .u8 q6, .int .u8 q7, .slice a n c] 27 (0, 0))
theorem Bx.below {W W' : World} {P : Nat} {q0 q1 q2 q3 q4 q5 q6 q7 : Int} {a : Option Addr} {n c : Nat} (h : Bx W P q0 q1 q2 q3 q4 q5 q6 q7 a n c) (hb : Below W.heap.size W W') : Bx W' P q0 q1 q2 q3 q4 q5 q6 q7 a n c := (hb.block _ (Array.getElem?_eq_some_iff.1 h).1).trans h
theorem Bx.cs {W : World} {P : Nat} {q0 q1 q2 q3 q4 q5 q6 q7 : Int} {a : Option Addr} {n c : Nat} (h : Bx W P q0 q1 q2 q3 q4 q5 q6 q7 a n c) : W.cell? ⟨P, 0, none⟩ = some (.int .u8 q0) ∧ W.cell? ⟨P, 1, none⟩ = some (.int .u8 q1) ∧ W.cell? ⟨P, 2, none⟩ = some (.int .u8 q2) ∧ W.cell? ⟨P, 3, none⟩ = some (.int .u8 q3) ∧ W.cell? ⟨P, 4, none⟩ = some (.int .u8 q4) ∧ W.cell? ⟨P, 5, none⟩ = some (.int .u8 q5) ∧ W.cell? ⟨P, 6, none⟩ = some (.int .u8 q6) ∧ W.cell? ⟨P, 7, none⟩ = some (.int .u8 q7) ∧ W.cell? ⟨P, 8, none⟩ = some (.slice a n c) := by
  refine ⟨?_, ?_, ?_, ?_, ?_, ?_, ?_, ?_, ?_⟩ <;> (rw [cell_of_row W _ _ _ _ _ h]; rfl)
theorem Bx.size {W : World} {P : Nat} {q0 q1 q2 q3 q4 q5 q6 q7 : Int} {a : Option Addr} {n c : Nat} (h : Bx W P q0 q1 q2 q3 q4 q5 q6 q7 a n c) : P < W.heap.size := (Array.getElem?_eq_some_iff.1 h).1
end Go.Proofs.Ytppgjodehphaeaa

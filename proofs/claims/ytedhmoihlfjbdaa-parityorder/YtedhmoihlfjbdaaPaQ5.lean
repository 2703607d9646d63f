/-
  ParityOrder: the plain side.
-/
import Derived.Test.YtedhmoihlfjbdaaPaPart0
import Derived.Test.YtedhmoihlfjbdaaPaFew2
namespace Go.Proofs.Ytedhmoihlfjbdaa
open Go.RowKit
set_option linter.unusedVariables false
/-- Two rows of the same numbers. -/
def SameSet (zs zs' : List Int) (n n' : Nat) : Prop := (∀ j, j < n → ∃ i, i < n' ∧ zs'.getD i 0 = zs.getD j 0) ∧ (∀ i, i < n' → ∃ j, j < n ∧ zs.getD j 0 = zs'.getD i 0)
theorem base_same {zs zs' : List Int} {n n' : Nat} {B B' : Int} (h0 : 0 < n) (h0' : 0 < n') (hz : U16 zs n) (hz' : U16 zs' n') (hB : Near zs n B) (hB' : Near zs' n' B') (hs : SameSet zs zs' n n') : Cv.base zs n = Cv.base zs' n' := by
  obtain ⟨m, hm, e, hn⟩ := base_near h0 hz hB
  obtain ⟨m', hm', e', hn'⟩ := base_near h0' hz' hB'
  obtain ⟨i, hi, ei⟩ := hs.1 m hm
  obtain ⟨j, hj, ej⟩ := hs.2 m' hm'
  have h1 := hn j hj
  have h2 := hn' i hi
  have z1 := hz m hm; have z2 := hz' m' hm'
  rw [ej, e] at h1
  rw [ei, e'] at h2
  rw [e, e']
  unfold Ser.ahead at h1 h2; omega
theorem any_iff {zs : List Int} {i : Nat} : ∀ k, Cv.any zs i k = true ↔ ∃ j, j < k ∧ zs.getD j 0 = i := fun k => by
  rw [← Cv.any_z]; exact anyZ_yes k
theorem m_same {b : Int} {zs zs' : List Int} {n n' : Nat} (hs : SameSet zs zs' n n') : Cv.m b zs n = Cv.m b zs' n' := by
  apply Nat.eq_of_testBit_eq
  intro p
  by_cases hp : p < 128
  · have e : p = 127 - (127 - p) := by omega
    rw [e, Cv.m_bit b zs n (by omega) n (Nat.le_refl _), Cv.m_bit b zs' n' (by omega) n' (Nat.le_refl _)]
    rw [Bool.eq_iff_iff, any_iff, any_iff]
    constructor
    · rintro ⟨j, hj, ej⟩
      rw [Cv.ds_get b zs hj] at ej
      obtain ⟨i, hi, ei⟩ := hs.1 j hj
      exact ⟨i, hi, by rw [Cv.ds_get b zs' hi, ei]; exact ej⟩
    · rintro ⟨i, hi, ei⟩
      rw [Cv.ds_get b zs' hi] at ei
      obtain ⟨j, hj, ej⟩ := hs.2 i hi
      exact ⟨j, hj, by rw [Cv.ds_get b zs hj, ej]; exact ei⟩
  · have h1 := Cv.m_ok b zs n; have h2 := Cv.m_ok b zs' n'
    unfold Mk.Ok at h1 h2
    have hpow : 2 ^ 128 ≤ 2 ^ p := Nat.pow_le_pow_right (by decide) (by omega)
    rw [Nat.testBit_lt_two_pow (Nat.lt_of_lt_of_le h1 hpow), Nat.testBit_lt_two_pow (Nat.lt_of_lt_of_le h2 hpow)]
/-- The packets in turned order. -/
theorem rev_at {ls : List (List Int)} {j : Nat} (h : j < ls.length) : ls.reverse.getD j [] = ls.getD (ls.length - 1 - j) [] := by
  rw [List.getD_eq_getElem?_getD, List.getElem?_reverse h, ← List.getD_eq_getElem?_getD]
theorem rev_code {ls : List (List Int)} (hok : PkOk ls) (hc : Pa.code ls = 0) : Pa.code ls.reverse = 0 ∧ PkOk ls.reverse := by
  have hσ : ∀ j, j < ls.reverse.length → ls.length - 1 - j < ls.length ∧ ls.reverse.getD j [] = ls.getD (ls.length - 1 - j) [] := fun j hj => by
    rw [List.length_reverse] at hj
    exact ⟨by omega, rev_at hj⟩
  have hg := (Pa.good_iff hok).1 hc
  have hok' := hok.sub _ hσ
  refine ⟨(Pa.good_iff hok').2 (hg.sub (by rw [List.length_reverse]; exact hg.pos) (by rw [List.length_reverse]; exact Nat.le_refl _) _ hσ (fun i j h1 h2 => ?_)), hok'⟩
  rw [List.length_reverse] at h2
  omega
theorem rev_set {ls : List (List Int)} : SameSet (Pa.seqs ls ls.length) (Pa.seqs ls.reverse ls.reverse.length) ls.length ls.reverse.length := by
  constructor
  · intro j hj
    refine ⟨ls.length - 1 - j, by rw [List.length_reverse]; omega, ?_⟩
    rw [Pa.seqs_at ls.reverse (by rw [List.length_reverse]; omega), Pa.seqs_at ls hj, rev_at (by omega), show ls.length - 1 - (ls.length - 1 - j) = j by omega]
  · intro i hi
    rw [List.length_reverse] at hi
    refine ⟨ls.length - 1 - i, by omega, ?_⟩
    rw [Pa.seqs_at ls (by omega), Pa.seqs_at ls.reverse (by rw [List.length_reverse]; omega), rev_at hi]
theorem PaGood.nears {ls : List (List Int)} (h : PaGood ls) : ∃ B, Near (Pa.seqs ls ls.length) ls.length B := by
  obtain ⟨B, hB⟩ := h.near
  exact ⟨B, fun j hj => by rw [Pa.seqs_at ls hj]; exact hB j hj⟩
theorem rev_base {ls : List (List Int)} (hok : PkOk ls) (hc : Pa.code ls = 0) : Pa.base ls.reverse = Pa.base ls ∧ Pa.X ls.reverse = Pa.X ls := by
  obtain ⟨hc', hok'⟩ := rev_code hok hc
  have hg := (Pa.good_iff hok).1 hc; have hg' := (Pa.good_iff hok').1 hc'
  obtain ⟨B, hB⟩ := hg.nears
  obtain ⟨B', hB'⟩ := hg'.nears
  have eb : Pa.base ls = Pa.base ls.reverse := base_same hg.pos hg'.pos (Pa.u16 hok) (Pa.u16 hok') hB hB' rev_set
  refine ⟨eb.symm, ?_⟩
  unfold Pa.X
  rw [← eb]
  exact (m_same rev_set).symm
theorem all_rev : ∀ (ls : List (List Int)), (∀ l ∈ ls, Str.Ok l) → Str.all [] ls.reverse = Str.all [] ls
  | [], _ => rfl
  | x :: xs, h => by
    have hx := h x (List.mem_cons_self ..)
    have hr : ∀ m ∈ xs, Str.Ok m := fun m hm => h m (List.mem_cons_of_mem _ hm)
    rw [List.reverse_cons, all_app (fun l hl => hr l (List.mem_reverse.1 hl)) (fun l hl => by rw [List.mem_singleton.1 hl]; exact hx), all_rev xs hr, all_one hx, Str.xor_comm]
    show _ = Str.all (Str.xor [] x) xs
    rw [Str.nil_xor hx, all_from xs x hx hr]
theorem rev_bytes {ls : List (List Int)} (h : PkB ls) : Pa.head ls.reverse = Pa.head ls ∧ Pa.body ls.reverse = Pa.body ls := by
  unfold Pa.head Pa.body
  rw [List.map_reverse, List.map_reverse]
  exact ⟨all_rev _ h.hd, all_rev _ h.bd⟩
/-- All packets but the k-th. -/
def but (ls : List (List Int)) (k : Nat) : List (List Int) := ls.take k ++ ls.drop (k + 1)
theorem but_len {ls : List (List Int)} {k : Nat} (h : k < ls.length) : (but ls k).length = ls.length - 1 := by
  unfold but; rw [List.length_append, List.length_take, List.length_drop]; omega
theorem but_at {ls : List (List Int)} {k j : Nat} (h : k < ls.length) (hj : j < ls.length - 1) : (but ls k).getD j [] = ls.getD (if j < k then j else j + 1) [] := by
  have hl : (ls.take k).length = k := by rw [List.length_take]; omega
  unfold but
  by_cases e : j < k
  · rw [if_pos e, List.getD_eq_getElem?_getD, List.getElem?_append_left (by omega), ← List.getD_eq_getElem?_getD, getD_take e]
  · rw [if_neg e, List.getD_eq_getElem?_getD, List.getElem?_append_right (by omega), hl, ← List.getD_eq_getElem?_getD, getD_drop, show k + 1 + (j - k) = j + 1 by omega]
theorem but_code {ls : List (List Int)} (hok : PkOk ls) (hc : Pa.code ls = 0) {k : Nat} (h : k < ls.length) (h2 : 1 < ls.length) : Pa.code (but ls k) = 0 ∧ PkOk (but ls k) := by
  have hbl := but_len h
  have hσ : ∀ j, j < (but ls k).length → (if j < k then j else j + 1) < ls.length ∧ (but ls k).getD j [] = ls.getD (if j < k then j else j + 1) [] := fun j hj => by
    rw [hbl] at hj
    refine ⟨?_, but_at h hj⟩
    split <;> omega
  have hok' := hok.sub _ hσ
  refine ⟨(Pa.good_iff hok').2 (((Pa.good_iff hok).1 hc).sub (by omega) (by omega) _ hσ (fun i j h1 h3 => ?_)), hok'⟩
  split <;> split <;> omega
theorem but_split {ls : List (List Int)} {k : Nat} (h : k < ls.length) : ls = ls.take k ++ ([ls.getD k []] ++ ls.drop (k + 1)) := by
  have e : [ls.getD k []] ++ ls.drop (k + 1) = ls.drop k := by
    rw [List.drop_eq_getElem_cons h, List.getD_eq_getElem?_getD, List.getElem?_eq_getElem h]; rfl
  rw [e, List.take_append_drop]
theorem but_bytes {ls : List (List Int)} (hb : PkB ls) {k : Nat} (h : k < ls.length) : Pa.head ls = Str.xor (Pa.head (but ls k)) (ihd (ls.getD k [])) ∧ Pa.body ls = Str.xor (Pa.body (but ls k)) ((ls.getD k []).drop 12) := by
  have hm : ls.getD k [] ∈ ls := by
    rw [List.getD_eq_getElem?_getD, List.getElem?_eq_getElem h]; exact List.getElem_mem h
  have h1 : PkB [ls.getD k []] := fun l hl => by rw [List.mem_singleton.1 hl]; exact hb _ hm
  have ht := hb.take k; have hd := hb.drop (k + 1)
  have hmd : PkB ([ls.getD k []] ++ ls.drop (k + 1)) := fun l hl => by
    rcases List.mem_append.1 hl with e | e
    · exact h1 l e
    · exact hd l e
  have e1 : Pa.head [ls.getD k []] = ihd (ls.getD k []) := all_one (ihd_Ok (hb _ hm))
  have e2 : Pa.body [ls.getD k []] = (ls.getD k []).drop 12 := all_one (drop_Ok (hb _ hm).1 12)
  unfold but
  constructor
  · rw [Pa.head_app ht hd]
    conv => lhs; rw [but_split h]
    rw [Pa.head_app ht hmd, Pa.head_app h1 hd, e1, Str.xor_comm (ihd _) (Pa.head (ls.drop (k + 1))), ← Str.xor_assoc]
  · rw [Pa.body_app ht hd]
    conv => lhs; rw [but_split h]
    rw [Pa.body_app ht hmd, Pa.body_app h1 hd, e2, Str.xor_comm ((ls.getD k []).drop 12) (Pa.body (ls.drop (k + 1))), ← Str.xor_assoc]
/-- A repair does not hold of more or fewer packets. -/
theorem holds_other {ls ms : List (List Int)} (q : Nat → Int) (BB : Int) (l : List Int) (hc : Pa.code ls = 0) (hc' : Pa.code ms = 0) (hne : ms.length ≠ ls.length) : Pa.holds q BB (Pa.X ls) l ms = false := by
  by_cases hH : ((Mk.H (Pa.X ls) : Int) == Mk.H (Pa.X ms)) = true
  · by_cases hL : ((Mk.L (Pa.X ls) : Int) == Mk.L (Pa.X ms)) = true
    · exfalso
      have e1 : Mk.H (Pa.X ls) = Mk.H (Pa.X ms) := by have := beq_iff_eq.1 hH; omega
      have e2 : Mk.L (Pa.X ls) = Mk.L (Pa.X ms) := by have := beq_iff_eq.1 hL; omega
      have c1 := Pa.seqs_cnt hc; have c2 := Pa.seqs_cnt hc'
      rw [bits_cnt] at c1 c2
      apply hne
      rw [← c1, ← c2]
      unfold Mk.cnt; rw [e1, e2]
    · unfold Pa.holds
      rw [show ((Mk.L (Pa.X ls) : Int) == Mk.L (Pa.X ms)) = false from by simpa using hL]
      simp
  · unfold Pa.holds
    rw [show ((Mk.H (Pa.X ls) : Int) == Mk.H (Pa.X ms)) = false from by simpa using hH]
    simp
end Go.Proofs.Ytedhmoihlfjbdaa
namespace Go.Proofs.Ytedhmoihlfjbdaa
open Go.RowKit Go.Shelf
set_option linter.unusedVariables false
/-- The cells of n slices. -/
def pcs (av : Nat → Option Addr) (nv cv : Nat → Nat) (n : Nat) : List Value := (List.range n).map fun j => .slice (av j) (nv j) (cv j)
theorem pcs_len (av : Nat → Option Addr) (nv cv : Nat → Nat) (n : Nat) : (pcs av nv cv n).length = n := by simp [pcs]
theorem pcs_succ (av : Nat → Option Addr) (nv cv : Nat → Nat) (n : Nat) : pcs av nv cv (n + 1) = pcs av nv cv n ++ [.slice (av n) (nv n) (cv n)] := by unfold pcs; rw [List.range_succ, List.map_append]; rfl
theorem pcs_at (av : Nat → Option Addr) (nv cv : Nat → Nat) {n j : Nat} (h : j < n) : (pcs av nv cv n)[j]? = some (.slice (av j) (nv j) (cv j)) := by
  rw [pcs, List.getElem?_map, List.getElem?_range h]; rfl
theorem pks_row {W : World} {base : Nat} {a : Option Addr} {n c : Nat} {av : Nat → Option Addr} {nv cv : Nat → Nat} (h : W.ownsRow base 26 1 (.slice a n c) n (pcs av nv cv n)) (ms : List (List Int)) (hl : ms.length = n) (hb : ∀ j, j < n → BAt W (av j) (nv j) (ms.getD j []) ∧ nv j ≤ cv j ∧ nv j ≤ 140737488355328) : PksAt W a n ms := by
  refine ⟨hl, ?_⟩
  rcases Nat.eq_zero_or_pos n with h0 | h0
  · subst h0; exact ⟨0, 0, fun _ => none, fun _ => 0, fun _ => 0, fun j hj => by omega⟩
  obtain ⟨g, ea, _, _, _⟩ := own_cell h (i := 0) (pcs_at av nv cv h0)
  refine ⟨g, 0, av, nv, cv, fun j hj => ?_⟩
  obtain ⟨g', ea', _, hg1, hg2⟩ := own_cell h (i := j) (pcs_at av nv cv hj)
  have eg : g' = g := by rw [ea] at ea'; simp at ea'; exact ea'.symm
  subst eg
  obtain ⟨h1, h2, h3⟩ := hb j hj
  exact ⟨ea, hg1, by rw [Nat.zero_add]; exact hg2, h1, h2, h3⟩
/-- The cells of all but the k-th. -/
theorem pcs_but (av : Nat → Option Addr) (nv cv : Nat → Nat) {n k : Nat} (h : k < n) : pcs av nv cv k ++ pcs (fun j => av (k + 1 + j)) (fun j => nv (k + 1 + j)) (fun j => cv (k + 1 + j)) (n - (k + 1)) = pcs (fun j => av (if j < k then j else j + 1)) (fun j => nv (if j < k then j else j + 1)) (fun j => cv (if j < k then j else j + 1)) (n - 1) := by
  apply List.ext_getElem?
  intro j
  by_cases e : j < k
  · rw [List.getElem?_append_left (by rw [pcs_len]; exact e), pcs_at _ _ _ e, pcs_at _ _ _ (by omega)]
    simp only [if_pos e]
  · rw [List.getElem?_append_right (by rw [pcs_len]; omega), pcs_len]
    by_cases e2 : j < n - 1
    · rw [pcs_at _ _ _ (by omega), pcs_at _ _ _ e2]
      simp only [if_neg e, show k + 1 + (j - k) = j + 1 by omega]
    · rw [List.getElem?_eq_none (by rw [pcs_len]; omega), List.getElem?_eq_none (by rw [pcs_len]; omega)]
/-- Of one packet the repair is its imprint. -/
theorem one_eq {ls : List (List Int)} (h : ls.length = 1) (hb : PkB ls) {k : Nat} (hk : k = 0) {q hx : Nat → Int} (hq : ∀ j, q j = (Pa.head ls).getD j 0) (hh : ∀ j, (ihd (ls.getD k [])).getD j 0 = hx j) : hx = q ∧ (ls.getD k []).drop 12 = Pa.body ls ∧ True := by
  subst hk
  have hl1 : ls = [ls.getD 0 []] := by
    match ls, h with
    | [x], _ => rfl
  have hbx := hb (ls.getD 0 []) (by rw [hl1]; simp)
  have hhd : Pa.head ls = ihd (ls.getD 0 []) := by
    conv => lhs; rw [hl1]
    exact all_one (ihd_Ok hbx)
  have hbd : Pa.body ls = (ls.getD 0 []).drop 12 := by
    conv => lhs; rw [hl1]
    exact all_one (drop_Ok hbx.1 12)
  exact ⟨funext fun j => by rw [← hh j, hq j, hhd], hbd.symm, trivial⟩
/-- In front of round k of the turning. -/
structure TS (w4 : World) (av : Nat → Option Addr) (nv cv : Nat → Nat) (len k : Nat) (a : Option Addr) (c : Nat) (W : World) : Prop where
  own : W.ownsRow w4.heap.size 26 1 (.slice a k c) k (pcs (fun j => av (len - 1 - j)) (fun j => nv (len - 1 - j)) (fun j => cv (len - 1 - j)) k)
  low : Below w4.heap.size w4 W
theorem TS.push {w4 W : World} {av : Nat → Option Addr} {nv cv : Nat → Nat} {len k : Nat} {a : Option Addr} {c : Nat} (h : TS w4 av nv cv len k a c W) (hk : k ≤ 1000000) (ty : TypeId) :
    ∃ a' c' W', (Builtin.append_ #[22, 22] ty #[.slice a k c, .slice (some ⟨W.heap.size, 0, none⟩) 1 1]).run Try.prog (W.alloc (.cells #[.slice (av (len - 1 - k)) (nv (len - 1 - k)) (cv (len - 1 - k))] 26)) = .ok (.slice a' (k + 1) c') W' ∧ TS w4 av nv cv len (k + 1) a' c' W' := by
  obtain ⟨a', c', W', hr, hO, hg, _⟩ := append_slice1 W ty w4.heap.size a k c _ h.own (av (len - 1 - k)) (nv (len - 1 - k)) (cv (len - 1 - k)) hk h.low.size
  refine ⟨a', c', W', hr, ⟨?_, ?_⟩⟩
  · rw [pcs_succ]; exact hO
  · have h1 := h.low.alloc h.low.size (.cells #[.slice (av (len - 1 - k)) (nv (len - 1 - k)) (cv (len - 1 - k))] 26)
    exact h1.grown hg h1.size (fun j e => by
      cases a with
      | none => cases e
      | some y => have := (h.own.lt _ rfl).1; simp at e; omega)
theorem idx_rev {len k : Nat} (hk : k < len) (hl : len ≤ 1000000000) : IntKind.i64.wrap (IntKind.i64.wrap ((len : Int) - 1) - (k : Int)) = ((len - 1 - k : Nat) : Int) ∧ wrap64 (wrap64 ((len : Int) - 1) - (k : Int)) = ((len - 1 - k : Nat) : Int) ∧ (len : Int) - 1 - (k : Int) = ((len - 1 - k : Nat) : Int) := by
  rw [IntKind.wrap_i64, IntKind.wrap_i64]; unfold wrap64; omega
/-- What Make leaves of packets that have a repair, with all its fields. -/
def MOut2 (ms : List (List Int)) (w : World) (e : Ending) (w' : World) : Prop :=
  ∃ (q : Nat → Int) (BB : Int) (X : Nat) (ab : Option Addr) (nb cb : Nat), e = .returned (.tuple #[.agg #[.int .u8 (q 0), .int .u8 (q 1), .int .u8 (q 2), .int .u8 (q 3), .int .u8 (q 4), .int .u8 (q 5), .int .u8 (q 6), .int .u8 (q 7), .int .u16 BB, .int .u64 (Mk.H X), .int .u64 (Mk.L X), .slice ab nb cb], .int .i64 0]) ∧ (∀ j, q j = (Pa.head ms).getD j 0) ∧ BB = Pa.base ms ∧ X = Pa.X ms ∧ nb = (Pa.body ms).length ∧ BAt w' ab nb (Pa.body ms) ∧ Below w.heap.size w w'
theorem make_good2 (a : Option Addr) (len c : Nat) (ms : List (List Int)) (w : World) (h : PksAt w a len ms) (hlen : len ≤ 1000000000) (hc : Pa.code ms = 0) :
    Calls Try.prog 15 #[.slice a len c] w (MOut2 ms w) := by
  refine (make_any a len c ms w h hlen).mono ?_
  rintro e w' hout
  obtain ⟨q, BB, X, ab, nb, cb, rfl, hB, hrep⟩ := hout.rep
  obtain ⟨h1, h2, h3, h4, h5⟩ := hrep.good hc
  exact ⟨q, BB, X, ab, nb, cb, by rw [hc]; rfl, h1, h2, h3, h4, h5.bat, hB⟩
end Go.Proofs.Ytedhmoihlfjbdaa
namespace Go.Proofs.Ytedhmoihlfjbdaa
open Go.RowKit Go.Shelf
set_option linter.unusedVariables false
structure Q3 (w : World) (a : Option Addr) (len : Nat) (ls : List (List Int)) (R : Nat) (q : Nat → Int) (BB : Int) (X : Nat) (ab : Option Addr) (nb cb : Nat) (l : List Int) (P : Nat) (qs : Nat → Int) (Bs : Int) (Xs : Nat) (sa : Option Addr) (ns cs : Nat) (l2 : List Int) (a2 : Option Addr) (n2 : Nat) (ms : List (List Int)) (W : World) : Prop where
  t : PT w a len ls R q BB X ab nb cb l W
  s : W.heap[P]? = some (.cells #[.int .u8 (qs 0), .int .u8 (qs 1), .int .u8 (qs 2), .int .u8 (qs 3), .int .u8 (qs 4), .int .u8 (qs 5), .int .u8 (qs 6), .int .u8 (qs 7), .int .u16 Bs, .int .u64 (Mk.H Xs), .int .u64 (Mk.L Xs), .slice sa ns cs] 32 (0, 0))
  bs : BAt W sa ns l2
  ps : PksAt W a2 n2 ms
section
variable {w : World} {a : Option Addr} {len : Nat} {ls : List (List Int)} {R : Nat} {q : Nat → Int} {BB : Int} {X : Nat} {ab : Option Addr} {nb cb : Nat} {l : List Int} {P : Nat} {qs : Nat → Int} {Bs : Int} {Xs : Nat} {sa : Option Addr} {ns cs : Nat} {l2 : List Int} {a2 : Option Addr} {n2 : Nat} {ms : List (List Int)} {W W' : World}
theorem Q3.below (h : Q3 w a len ls R q BB X ab nb cb l P qs Bs Xs sa ns cs l2 a2 n2 ms W) (hb : Below W.heap.size W W') : Q3 w a len ls R q BB X ab nb cb l P qs Bs Xs sa ns cs l2 a2 n2 ms W' :=
  ⟨h.t.below hb, (hb.block _ (Array.getElem?_eq_some_iff.1 h.s).1).trans h.s, h.bs.below hb, h.ps.below hb⟩
theorem Q3.all (h : Q3 w a len ls R q BB X ab nb cb l P qs Bs Xs sa ns cs l2 a2 n2 ms W) : W.cell? ⟨R, 0, none⟩ = some (.int .u8 (q 0)) ∧ W.cell? ⟨R, 1, none⟩ = some (.int .u8 (q 1)) ∧ W.cell? ⟨R, 2, none⟩ = some (.int .u8 (q 2)) ∧ W.cell? ⟨R, 3, none⟩ = some (.int .u8 (q 3)) ∧ W.cell? ⟨R, 4, none⟩ = some (.int .u8 (q 4)) ∧ W.cell? ⟨R, 5, none⟩ = some (.int .u8 (q 5)) ∧ W.cell? ⟨R, 6, none⟩ = some (.int .u8 (q 6)) ∧ W.cell? ⟨R, 7, none⟩ = some (.int .u8 (q 7)) ∧ W.cell? ⟨R, 8, none⟩ = some (.int .u16 BB) ∧ W.cell? ⟨R, 9, none⟩ = some (.int .u64 (Mk.H X)) ∧ W.cell? ⟨R, 10, none⟩ = some (.int .u64 (Mk.L X)) ∧ W.cell? ⟨R, 11, none⟩ = some (.slice ab nb cb) ∧ W.cell? ⟨P, 0, none⟩ = some (.int .u8 (qs 0)) ∧ W.cell? ⟨P, 1, none⟩ = some (.int .u8 (qs 1)) ∧ W.cell? ⟨P, 2, none⟩ = some (.int .u8 (qs 2)) ∧ W.cell? ⟨P, 3, none⟩ = some (.int .u8 (qs 3)) ∧ W.cell? ⟨P, 4, none⟩ = some (.int .u8 (qs 4)) ∧ W.cell? ⟨P, 5, none⟩ = some (.int .u8 (qs 5)) ∧ W.cell? ⟨P, 6, none⟩ = some (.int .u8 (qs 6)) ∧ W.cell? ⟨P, 7, none⟩ = some (.int .u8 (qs 7)) ∧ W.cell? ⟨P, 8, none⟩ = some (.int .u16 Bs) ∧ W.cell? ⟨P, 9, none⟩ = some (.int .u64 (Mk.H Xs)) ∧ W.cell? ⟨P, 10, none⟩ = some (.int .u64 (Mk.L Xs)) ∧ W.cell? ⟨P, 11, none⟩ = some (.slice sa ns cs) ∧ Q3 w a len ls R q BB X ab nb cb l P qs Bs Xs sa ns cs l2 a2 n2 ms W := by
  refine ⟨?_, ?_, ?_, ?_, ?_, ?_, ?_, ?_, ?_, ?_, ?_, ?_, ?_, ?_, ?_, ?_, ?_, ?_, ?_, ?_, ?_, ?_, ?_, ?_, h⟩
  iterate 12 (rw [cell_of_row W _ _ _ _ _ h.t.rb]; rfl)
  iterate 12 (rw [cell_of_row W _ _ _ _ _ h.s]; rfl)
theorem Q3.of (h : W.cell? ⟨R, 0, none⟩ = some (.int .u8 (q 0)) ∧ W.cell? ⟨R, 1, none⟩ = some (.int .u8 (q 1)) ∧ W.cell? ⟨R, 2, none⟩ = some (.int .u8 (q 2)) ∧ W.cell? ⟨R, 3, none⟩ = some (.int .u8 (q 3)) ∧ W.cell? ⟨R, 4, none⟩ = some (.int .u8 (q 4)) ∧ W.cell? ⟨R, 5, none⟩ = some (.int .u8 (q 5)) ∧ W.cell? ⟨R, 6, none⟩ = some (.int .u8 (q 6)) ∧ W.cell? ⟨R, 7, none⟩ = some (.int .u8 (q 7)) ∧ W.cell? ⟨R, 8, none⟩ = some (.int .u16 BB) ∧ W.cell? ⟨R, 9, none⟩ = some (.int .u64 (Mk.H X)) ∧ W.cell? ⟨R, 10, none⟩ = some (.int .u64 (Mk.L X)) ∧ W.cell? ⟨R, 11, none⟩ = some (.slice ab nb cb) ∧ W.cell? ⟨P, 0, none⟩ = some (.int .u8 (qs 0)) ∧ W.cell? ⟨P, 1, none⟩ = some (.int .u8 (qs 1)) ∧ W.cell? ⟨P, 2, none⟩ = some (.int .u8 (qs 2)) ∧ W.cell? ⟨P, 3, none⟩ = some (.int .u8 (qs 3)) ∧ W.cell? ⟨P, 4, none⟩ = some (.int .u8 (qs 4)) ∧ W.cell? ⟨P, 5, none⟩ = some (.int .u8 (qs 5)) ∧ W.cell? ⟨P, 6, none⟩ = some (.int .u8 (qs 6)) ∧ W.cell? ⟨P, 7, none⟩ = some (.int .u8 (qs 7)) ∧ W.cell? ⟨P, 8, none⟩ = some (.int .u16 Bs) ∧ W.cell? ⟨P, 9, none⟩ = some (.int .u64 (Mk.H Xs)) ∧ W.cell? ⟨P, 10, none⟩ = some (.int .u64 (Mk.L Xs)) ∧ W.cell? ⟨P, 11, none⟩ = some (.slice sa ns cs) ∧ Q3 w a len ls R q BB X ab nb cb l P qs Bs Xs sa ns cs l2 a2 n2 ms W) : Q3 w a len ls R q BB X ab nb cb l P qs Bs Xs sa ns cs l2 a2 n2 ms W := h.2.2.2.2.2.2.2.2.2.2.2.2.2.2.2.2.2.2.2.2.2.2.2.2
theorem Q3.belows (h : W.cell? ⟨R, 0, none⟩ = some (.int .u8 (q 0)) ∧ W.cell? ⟨R, 1, none⟩ = some (.int .u8 (q 1)) ∧ W.cell? ⟨R, 2, none⟩ = some (.int .u8 (q 2)) ∧ W.cell? ⟨R, 3, none⟩ = some (.int .u8 (q 3)) ∧ W.cell? ⟨R, 4, none⟩ = some (.int .u8 (q 4)) ∧ W.cell? ⟨R, 5, none⟩ = some (.int .u8 (q 5)) ∧ W.cell? ⟨R, 6, none⟩ = some (.int .u8 (q 6)) ∧ W.cell? ⟨R, 7, none⟩ = some (.int .u8 (q 7)) ∧ W.cell? ⟨R, 8, none⟩ = some (.int .u16 BB) ∧ W.cell? ⟨R, 9, none⟩ = some (.int .u64 (Mk.H X)) ∧ W.cell? ⟨R, 10, none⟩ = some (.int .u64 (Mk.L X)) ∧ W.cell? ⟨R, 11, none⟩ = some (.slice ab nb cb) ∧ W.cell? ⟨P, 0, none⟩ = some (.int .u8 (qs 0)) ∧ W.cell? ⟨P, 1, none⟩ = some (.int .u8 (qs 1)) ∧ W.cell? ⟨P, 2, none⟩ = some (.int .u8 (qs 2)) ∧ W.cell? ⟨P, 3, none⟩ = some (.int .u8 (qs 3)) ∧ W.cell? ⟨P, 4, none⟩ = some (.int .u8 (qs 4)) ∧ W.cell? ⟨P, 5, none⟩ = some (.int .u8 (qs 5)) ∧ W.cell? ⟨P, 6, none⟩ = some (.int .u8 (qs 6)) ∧ W.cell? ⟨P, 7, none⟩ = some (.int .u8 (qs 7)) ∧ W.cell? ⟨P, 8, none⟩ = some (.int .u16 Bs) ∧ W.cell? ⟨P, 9, none⟩ = some (.int .u64 (Mk.H Xs)) ∧ W.cell? ⟨P, 10, none⟩ = some (.int .u64 (Mk.L Xs)) ∧ W.cell? ⟨P, 11, none⟩ = some (.slice sa ns cs) ∧ Q3 w a len ls R q BB X ab nb cb l P qs Bs Xs sa ns cs l2 a2 n2 ms W) (hb : Below W.heap.size W W') : W'.cell? ⟨R, 0, none⟩ = some (.int .u8 (q 0)) ∧ W'.cell? ⟨R, 1, none⟩ = some (.int .u8 (q 1)) ∧ W'.cell? ⟨R, 2, none⟩ = some (.int .u8 (q 2)) ∧ W'.cell? ⟨R, 3, none⟩ = some (.int .u8 (q 3)) ∧ W'.cell? ⟨R, 4, none⟩ = some (.int .u8 (q 4)) ∧ W'.cell? ⟨R, 5, none⟩ = some (.int .u8 (q 5)) ∧ W'.cell? ⟨R, 6, none⟩ = some (.int .u8 (q 6)) ∧ W'.cell? ⟨R, 7, none⟩ = some (.int .u8 (q 7)) ∧ W'.cell? ⟨R, 8, none⟩ = some (.int .u16 BB) ∧ W'.cell? ⟨R, 9, none⟩ = some (.int .u64 (Mk.H X)) ∧ W'.cell? ⟨R, 10, none⟩ = some (.int .u64 (Mk.L X)) ∧ W'.cell? ⟨R, 11, none⟩ = some (.slice ab nb cb) ∧ W'.cell? ⟨P, 0, none⟩ = some (.int .u8 (qs 0)) ∧ W'.cell? ⟨P, 1, none⟩ = some (.int .u8 (qs 1)) ∧ W'.cell? ⟨P, 2, none⟩ = some (.int .u8 (qs 2)) ∧ W'.cell? ⟨P, 3, none⟩ = some (.int .u8 (qs 3)) ∧ W'.cell? ⟨P, 4, none⟩ = some (.int .u8 (qs 4)) ∧ W'.cell? ⟨P, 5, none⟩ = some (.int .u8 (qs 5)) ∧ W'.cell? ⟨P, 6, none⟩ = some (.int .u8 (qs 6)) ∧ W'.cell? ⟨P, 7, none⟩ = some (.int .u8 (qs 7)) ∧ W'.cell? ⟨P, 8, none⟩ = some (.int .u16 Bs) ∧ W'.cell? ⟨P, 9, none⟩ = some (.int .u64 (Mk.H Xs)) ∧ W'.cell? ⟨P, 10, none⟩ = some (.int .u64 (Mk.L Xs)) ∧ W'.cell? ⟨P, 11, none⟩ = some (.slice sa ns cs) ∧ Q3 w a len ls R q BB X ab nb cb l P qs Bs Xs sa ns cs l2 a2 n2 ms W' := ((Q3.of h).below hb).all
theorem Q3.drews (h : W.cell? ⟨R, 0, none⟩ = some (.int .u8 (q 0)) ∧ W.cell? ⟨R, 1, none⟩ = some (.int .u8 (q 1)) ∧ W.cell? ⟨R, 2, none⟩ = some (.int .u8 (q 2)) ∧ W.cell? ⟨R, 3, none⟩ = some (.int .u8 (q 3)) ∧ W.cell? ⟨R, 4, none⟩ = some (.int .u8 (q 4)) ∧ W.cell? ⟨R, 5, none⟩ = some (.int .u8 (q 5)) ∧ W.cell? ⟨R, 6, none⟩ = some (.int .u8 (q 6)) ∧ W.cell? ⟨R, 7, none⟩ = some (.int .u8 (q 7)) ∧ W.cell? ⟨R, 8, none⟩ = some (.int .u16 BB) ∧ W.cell? ⟨R, 9, none⟩ = some (.int .u64 (Mk.H X)) ∧ W.cell? ⟨R, 10, none⟩ = some (.int .u64 (Mk.L X)) ∧ W.cell? ⟨R, 11, none⟩ = some (.slice ab nb cb) ∧ W.cell? ⟨P, 0, none⟩ = some (.int .u8 (qs 0)) ∧ W.cell? ⟨P, 1, none⟩ = some (.int .u8 (qs 1)) ∧ W.cell? ⟨P, 2, none⟩ = some (.int .u8 (qs 2)) ∧ W.cell? ⟨P, 3, none⟩ = some (.int .u8 (qs 3)) ∧ W.cell? ⟨P, 4, none⟩ = some (.int .u8 (qs 4)) ∧ W.cell? ⟨P, 5, none⟩ = some (.int .u8 (qs 5)) ∧ W.cell? ⟨P, 6, none⟩ = some (.int .u8 (qs 6)) ∧ W.cell? ⟨P, 7, none⟩ = some (.int .u8 (qs 7)) ∧ W.cell? ⟨P, 8, none⟩ = some (.int .u16 Bs) ∧ W.cell? ⟨P, 9, none⟩ = some (.int .u64 (Mk.H Xs)) ∧ W.cell? ⟨P, 10, none⟩ = some (.int .u64 (Mk.L Xs)) ∧ W.cell? ⟨P, 11, none⟩ = some (.slice sa ns cs) ∧ Q3 w a len ls R q BB X ab nb cb l P qs Bs Xs sa ns cs l2 a2 n2 ms W) : W.drew.cell? ⟨R, 0, none⟩ = some (.int .u8 (q 0)) ∧ W.drew.cell? ⟨R, 1, none⟩ = some (.int .u8 (q 1)) ∧ W.drew.cell? ⟨R, 2, none⟩ = some (.int .u8 (q 2)) ∧ W.drew.cell? ⟨R, 3, none⟩ = some (.int .u8 (q 3)) ∧ W.drew.cell? ⟨R, 4, none⟩ = some (.int .u8 (q 4)) ∧ W.drew.cell? ⟨R, 5, none⟩ = some (.int .u8 (q 5)) ∧ W.drew.cell? ⟨R, 6, none⟩ = some (.int .u8 (q 6)) ∧ W.drew.cell? ⟨R, 7, none⟩ = some (.int .u8 (q 7)) ∧ W.drew.cell? ⟨R, 8, none⟩ = some (.int .u16 BB) ∧ W.drew.cell? ⟨R, 9, none⟩ = some (.int .u64 (Mk.H X)) ∧ W.drew.cell? ⟨R, 10, none⟩ = some (.int .u64 (Mk.L X)) ∧ W.drew.cell? ⟨R, 11, none⟩ = some (.slice ab nb cb) ∧ W.drew.cell? ⟨P, 0, none⟩ = some (.int .u8 (qs 0)) ∧ W.drew.cell? ⟨P, 1, none⟩ = some (.int .u8 (qs 1)) ∧ W.drew.cell? ⟨P, 2, none⟩ = some (.int .u8 (qs 2)) ∧ W.drew.cell? ⟨P, 3, none⟩ = some (.int .u8 (qs 3)) ∧ W.drew.cell? ⟨P, 4, none⟩ = some (.int .u8 (qs 4)) ∧ W.drew.cell? ⟨P, 5, none⟩ = some (.int .u8 (qs 5)) ∧ W.drew.cell? ⟨P, 6, none⟩ = some (.int .u8 (qs 6)) ∧ W.drew.cell? ⟨P, 7, none⟩ = some (.int .u8 (qs 7)) ∧ W.drew.cell? ⟨P, 8, none⟩ = some (.int .u16 Bs) ∧ W.drew.cell? ⟨P, 9, none⟩ = some (.int .u64 (Mk.H Xs)) ∧ W.drew.cell? ⟨P, 10, none⟩ = some (.int .u64 (Mk.L Xs)) ∧ W.drew.cell? ⟨P, 11, none⟩ = some (.slice sa ns cs) ∧ Q3 w a len ls R q BB X ab nb cb l P qs Bs Xs sa ns cs l2 a2 n2 ms W.drew := Q3.belows h ((Below.refl _ W).drew)
end
end Go.Proofs.Ytedhmoihlfjbdaa
namespace Go.Proofs.Ytedhmoihlfjbdaa
open Go.RowKit Go.Shelf
set_option linter.unusedVariables false
structure Q5 (w : World) (a : Option Addr) (len : Nat) (ls : List (List Int)) (R : Nat) (q : Nat → Int) (BB : Int) (X : Nat) (ab : Option Addr) (nb cb : Nat) (l : List Int) (PX : Nat) (hx : Nat → Int) (xa : Option Addr) (nx xc : Nat) (lx : List Int) (a2 : Option Addr) (n2 : Nat) (ms : List (List Int)) (W : World) : Prop where
  t : PT w a len ls R q BB X ab nb cb l W
  x : W.heap[PX]? = some (.cells #[.int .u8 (hx 0), .int .u8 (hx 1), .int .u8 (hx 2), .int .u8 (hx 3), .int .u8 (hx 4), .int .u8 (hx 5), .int .u8 (hx 6), .int .u8 (hx 7), .slice xa nx xc] 57 (0, 0))
  bx : BAt W xa nx lx
  ps : PksAt W a2 n2 ms
structure Q6 (w : World) (a : Option Addr) (len : Nat) (ls : List (List Int)) (R : Nat) (q : Nat → Int) (BB : Int) (X : Nat) (ab : Option Addr) (nb cb : Nat) (l : List Int) (PX : Nat) (hx : Nat → Int) (xa : Option Addr) (nx xc : Nat) (lx : List Int) (a2 : Option Addr) (n2 : Nat) (ms : List (List Int)) (PO : Nat) (qo : Nat → Int) (Bo : Int) (Xo : Nat) (oa : Option Addr) (no co : Nat) (lo : List Int) (W : World) : Prop where
  f : Q5 w a len ls R q BB X ab nb cb l PX hx xa nx xc lx a2 n2 ms W
  o : W.heap[PO]? = some (.cells #[.int .u8 (qo 0), .int .u8 (qo 1), .int .u8 (qo 2), .int .u8 (qo 3), .int .u8 (qo 4), .int .u8 (qo 5), .int .u8 (qo 6), .int .u8 (qo 7), .int .u16 Bo, .int .u64 (Mk.H Xo), .int .u64 (Mk.L Xo), .slice oa no co] 32 (0, 0))
  bo : BAt W oa no lo
section
variable {w : World} {a : Option Addr} {len : Nat} {ls : List (List Int)} {R : Nat} {q : Nat → Int} {BB : Int} {X : Nat} {ab : Option Addr} {nb cb : Nat} {l : List Int} {PX : Nat} {hx : Nat → Int} {xa : Option Addr} {nx xc : Nat} {lx : List Int} {a2 : Option Addr} {n2 : Nat} {ms : List (List Int)} {PO : Nat} {qo : Nat → Int} {Bo : Int} {Xo : Nat} {oa : Option Addr} {no co : Nat} {lo : List Int} {W W' : World}
theorem Q5.below (h : Q5 w a len ls R q BB X ab nb cb l PX hx xa nx xc lx a2 n2 ms W) (hb : Below W.heap.size W W') : Q5 w a len ls R q BB X ab nb cb l PX hx xa nx xc lx a2 n2 ms W' :=
  ⟨h.t.below hb, (hb.block _ (Array.getElem?_eq_some_iff.1 h.x).1).trans h.x, h.bx.below hb, h.ps.below hb⟩
theorem Q5.all (h : Q5 w a len ls R q BB X ab nb cb l PX hx xa nx xc lx a2 n2 ms W) : W.cell? ⟨R, 0, none⟩ = some (.int .u8 (q 0)) ∧ W.cell? ⟨R, 1, none⟩ = some (.int .u8 (q 1)) ∧ W.cell? ⟨R, 2, none⟩ = some (.int .u8 (q 2)) ∧ W.cell? ⟨R, 3, none⟩ = some (.int .u8 (q 3)) ∧ W.cell? ⟨R, 4, none⟩ = some (.int .u8 (q 4)) ∧ W.cell? ⟨R, 5, none⟩ = some (.int .u8 (q 5)) ∧ W.cell? ⟨R, 6, none⟩ = some (.int .u8 (q 6)) ∧ W.cell? ⟨R, 7, none⟩ = some (.int .u8 (q 7)) ∧ W.cell? ⟨R, 8, none⟩ = some (.int .u16 BB) ∧ W.cell? ⟨R, 9, none⟩ = some (.int .u64 (Mk.H X)) ∧ W.cell? ⟨R, 10, none⟩ = some (.int .u64 (Mk.L X)) ∧ W.cell? ⟨R, 11, none⟩ = some (.slice ab nb cb) ∧ W.cell? ⟨PX, 0, none⟩ = some (.int .u8 (hx 0)) ∧ W.cell? ⟨PX, 1, none⟩ = some (.int .u8 (hx 1)) ∧ W.cell? ⟨PX, 2, none⟩ = some (.int .u8 (hx 2)) ∧ W.cell? ⟨PX, 3, none⟩ = some (.int .u8 (hx 3)) ∧ W.cell? ⟨PX, 4, none⟩ = some (.int .u8 (hx 4)) ∧ W.cell? ⟨PX, 5, none⟩ = some (.int .u8 (hx 5)) ∧ W.cell? ⟨PX, 6, none⟩ = some (.int .u8 (hx 6)) ∧ W.cell? ⟨PX, 7, none⟩ = some (.int .u8 (hx 7)) ∧ W.cell? ⟨PX, 8, none⟩ = some (.slice xa nx xc) ∧ Q5 w a len ls R q BB X ab nb cb l PX hx xa nx xc lx a2 n2 ms W := by
  refine ⟨?_, ?_, ?_, ?_, ?_, ?_, ?_, ?_, ?_, ?_, ?_, ?_, ?_, ?_, ?_, ?_, ?_, ?_, ?_, ?_, ?_, h⟩
  iterate 12 (rw [cell_of_row W _ _ _ _ _ h.t.rb]; rfl)
  iterate 9 (rw [cell_of_row W _ _ _ _ _ h.x]; rfl)
theorem Q5.of (h : W.cell? ⟨R, 0, none⟩ = some (.int .u8 (q 0)) ∧ W.cell? ⟨R, 1, none⟩ = some (.int .u8 (q 1)) ∧ W.cell? ⟨R, 2, none⟩ = some (.int .u8 (q 2)) ∧ W.cell? ⟨R, 3, none⟩ = some (.int .u8 (q 3)) ∧ W.cell? ⟨R, 4, none⟩ = some (.int .u8 (q 4)) ∧ W.cell? ⟨R, 5, none⟩ = some (.int .u8 (q 5)) ∧ W.cell? ⟨R, 6, none⟩ = some (.int .u8 (q 6)) ∧ W.cell? ⟨R, 7, none⟩ = some (.int .u8 (q 7)) ∧ W.cell? ⟨R, 8, none⟩ = some (.int .u16 BB) ∧ W.cell? ⟨R, 9, none⟩ = some (.int .u64 (Mk.H X)) ∧ W.cell? ⟨R, 10, none⟩ = some (.int .u64 (Mk.L X)) ∧ W.cell? ⟨R, 11, none⟩ = some (.slice ab nb cb) ∧ W.cell? ⟨PX, 0, none⟩ = some (.int .u8 (hx 0)) ∧ W.cell? ⟨PX, 1, none⟩ = some (.int .u8 (hx 1)) ∧ W.cell? ⟨PX, 2, none⟩ = some (.int .u8 (hx 2)) ∧ W.cell? ⟨PX, 3, none⟩ = some (.int .u8 (hx 3)) ∧ W.cell? ⟨PX, 4, none⟩ = some (.int .u8 (hx 4)) ∧ W.cell? ⟨PX, 5, none⟩ = some (.int .u8 (hx 5)) ∧ W.cell? ⟨PX, 6, none⟩ = some (.int .u8 (hx 6)) ∧ W.cell? ⟨PX, 7, none⟩ = some (.int .u8 (hx 7)) ∧ W.cell? ⟨PX, 8, none⟩ = some (.slice xa nx xc) ∧ Q5 w a len ls R q BB X ab nb cb l PX hx xa nx xc lx a2 n2 ms W) : Q5 w a len ls R q BB X ab nb cb l PX hx xa nx xc lx a2 n2 ms W := h.2.2.2.2.2.2.2.2.2.2.2.2.2.2.2.2.2.2.2.2.2
theorem Q5.belows (h : W.cell? ⟨R, 0, none⟩ = some (.int .u8 (q 0)) ∧ W.cell? ⟨R, 1, none⟩ = some (.int .u8 (q 1)) ∧ W.cell? ⟨R, 2, none⟩ = some (.int .u8 (q 2)) ∧ W.cell? ⟨R, 3, none⟩ = some (.int .u8 (q 3)) ∧ W.cell? ⟨R, 4, none⟩ = some (.int .u8 (q 4)) ∧ W.cell? ⟨R, 5, none⟩ = some (.int .u8 (q 5)) ∧ W.cell? ⟨R, 6, none⟩ = some (.int .u8 (q 6)) ∧ W.cell? ⟨R, 7, none⟩ = some (.int .u8 (q 7)) ∧ W.cell? ⟨R, 8, none⟩ = some (.int .u16 BB) ∧ W.cell? ⟨R, 9, none⟩ = some (.int .u64 (Mk.H X)) ∧ W.cell? ⟨R, 10, none⟩ = some (.int .u64 (Mk.L X)) ∧ W.cell? ⟨R, 11, none⟩ = some (.slice ab nb cb) ∧ W.cell? ⟨PX, 0, none⟩ = some (.int .u8 (hx 0)) ∧ W.cell? ⟨PX, 1, none⟩ = some (.int .u8 (hx 1)) ∧ W.cell? ⟨PX, 2, none⟩ = some (.int .u8 (hx 2)) ∧ W.cell? ⟨PX, 3, none⟩ = some (.int .u8 (hx 3)) ∧ W.cell? ⟨PX, 4, none⟩ = some (.int .u8 (hx 4)) ∧ W.cell? ⟨PX, 5, none⟩ = some (.int .u8 (hx 5)) ∧ W.cell? ⟨PX, 6, none⟩ = some (.int .u8 (hx 6)) ∧ W.cell? ⟨PX, 7, none⟩ = some (.int .u8 (hx 7)) ∧ W.cell? ⟨PX, 8, none⟩ = some (.slice xa nx xc) ∧ Q5 w a len ls R q BB X ab nb cb l PX hx xa nx xc lx a2 n2 ms W) (hb : Below W.heap.size W W') : W'.cell? ⟨R, 0, none⟩ = some (.int .u8 (q 0)) ∧ W'.cell? ⟨R, 1, none⟩ = some (.int .u8 (q 1)) ∧ W'.cell? ⟨R, 2, none⟩ = some (.int .u8 (q 2)) ∧ W'.cell? ⟨R, 3, none⟩ = some (.int .u8 (q 3)) ∧ W'.cell? ⟨R, 4, none⟩ = some (.int .u8 (q 4)) ∧ W'.cell? ⟨R, 5, none⟩ = some (.int .u8 (q 5)) ∧ W'.cell? ⟨R, 6, none⟩ = some (.int .u8 (q 6)) ∧ W'.cell? ⟨R, 7, none⟩ = some (.int .u8 (q 7)) ∧ W'.cell? ⟨R, 8, none⟩ = some (.int .u16 BB) ∧ W'.cell? ⟨R, 9, none⟩ = some (.int .u64 (Mk.H X)) ∧ W'.cell? ⟨R, 10, none⟩ = some (.int .u64 (Mk.L X)) ∧ W'.cell? ⟨R, 11, none⟩ = some (.slice ab nb cb) ∧ W'.cell? ⟨PX, 0, none⟩ = some (.int .u8 (hx 0)) ∧ W'.cell? ⟨PX, 1, none⟩ = some (.int .u8 (hx 1)) ∧ W'.cell? ⟨PX, 2, none⟩ = some (.int .u8 (hx 2)) ∧ W'.cell? ⟨PX, 3, none⟩ = some (.int .u8 (hx 3)) ∧ W'.cell? ⟨PX, 4, none⟩ = some (.int .u8 (hx 4)) ∧ W'.cell? ⟨PX, 5, none⟩ = some (.int .u8 (hx 5)) ∧ W'.cell? ⟨PX, 6, none⟩ = some (.int .u8 (hx 6)) ∧ W'.cell? ⟨PX, 7, none⟩ = some (.int .u8 (hx 7)) ∧ W'.cell? ⟨PX, 8, none⟩ = some (.slice xa nx xc) ∧ Q5 w a len ls R q BB X ab nb cb l PX hx xa nx xc lx a2 n2 ms W' := ((Q5.of h).below hb).all
theorem Q5.drews (h : W.cell? ⟨R, 0, none⟩ = some (.int .u8 (q 0)) ∧ W.cell? ⟨R, 1, none⟩ = some (.int .u8 (q 1)) ∧ W.cell? ⟨R, 2, none⟩ = some (.int .u8 (q 2)) ∧ W.cell? ⟨R, 3, none⟩ = some (.int .u8 (q 3)) ∧ W.cell? ⟨R, 4, none⟩ = some (.int .u8 (q 4)) ∧ W.cell? ⟨R, 5, none⟩ = some (.int .u8 (q 5)) ∧ W.cell? ⟨R, 6, none⟩ = some (.int .u8 (q 6)) ∧ W.cell? ⟨R, 7, none⟩ = some (.int .u8 (q 7)) ∧ W.cell? ⟨R, 8, none⟩ = some (.int .u16 BB) ∧ W.cell? ⟨R, 9, none⟩ = some (.int .u64 (Mk.H X)) ∧ W.cell? ⟨R, 10, none⟩ = some (.int .u64 (Mk.L X)) ∧ W.cell? ⟨R, 11, none⟩ = some (.slice ab nb cb) ∧ W.cell? ⟨PX, 0, none⟩ = some (.int .u8 (hx 0)) ∧ W.cell? ⟨PX, 1, none⟩ = some (.int .u8 (hx 1)) ∧ W.cell? ⟨PX, 2, none⟩ = some (.int .u8 (hx 2)) ∧ W.cell? ⟨PX, 3, none⟩ = some (.int .u8 (hx 3)) ∧ W.cell? ⟨PX, 4, none⟩ = some (.int .u8 (hx 4)) ∧ W.cell? ⟨PX, 5, none⟩ = some (.int .u8 (hx 5)) ∧ W.cell? ⟨PX, 6, none⟩ = some (.int .u8 (hx 6)) ∧ W.cell? ⟨PX, 7, none⟩ = some (.int .u8 (hx 7)) ∧ W.cell? ⟨PX, 8, none⟩ = some (.slice xa nx xc) ∧ Q5 w a len ls R q BB X ab nb cb l PX hx xa nx xc lx a2 n2 ms W) : W.drew.cell? ⟨R, 0, none⟩ = some (.int .u8 (q 0)) ∧ W.drew.cell? ⟨R, 1, none⟩ = some (.int .u8 (q 1)) ∧ W.drew.cell? ⟨R, 2, none⟩ = some (.int .u8 (q 2)) ∧ W.drew.cell? ⟨R, 3, none⟩ = some (.int .u8 (q 3)) ∧ W.drew.cell? ⟨R, 4, none⟩ = some (.int .u8 (q 4)) ∧ W.drew.cell? ⟨R, 5, none⟩ = some (.int .u8 (q 5)) ∧ W.drew.cell? ⟨R, 6, none⟩ = some (.int .u8 (q 6)) ∧ W.drew.cell? ⟨R, 7, none⟩ = some (.int .u8 (q 7)) ∧ W.drew.cell? ⟨R, 8, none⟩ = some (.int .u16 BB) ∧ W.drew.cell? ⟨R, 9, none⟩ = some (.int .u64 (Mk.H X)) ∧ W.drew.cell? ⟨R, 10, none⟩ = some (.int .u64 (Mk.L X)) ∧ W.drew.cell? ⟨R, 11, none⟩ = some (.slice ab nb cb) ∧ W.drew.cell? ⟨PX, 0, none⟩ = some (.int .u8 (hx 0)) ∧ W.drew.cell? ⟨PX, 1, none⟩ = some (.int .u8 (hx 1)) ∧ W.drew.cell? ⟨PX, 2, none⟩ = some (.int .u8 (hx 2)) ∧ W.drew.cell? ⟨PX, 3, none⟩ = some (.int .u8 (hx 3)) ∧ W.drew.cell? ⟨PX, 4, none⟩ = some (.int .u8 (hx 4)) ∧ W.drew.cell? ⟨PX, 5, none⟩ = some (.int .u8 (hx 5)) ∧ W.drew.cell? ⟨PX, 6, none⟩ = some (.int .u8 (hx 6)) ∧ W.drew.cell? ⟨PX, 7, none⟩ = some (.int .u8 (hx 7)) ∧ W.drew.cell? ⟨PX, 8, none⟩ = some (.slice xa nx xc) ∧ Q5 w a len ls R q BB X ab nb cb l PX hx xa nx xc lx a2 n2 ms W.drew := Q5.belows h ((Below.refl _ W).drew)
theorem Q6.below (h : Q6 w a len ls R q BB X ab nb cb l PX hx xa nx xc lx a2 n2 ms PO qo Bo Xo oa no co lo W) (hb : Below W.heap.size W W') : Q6 w a len ls R q BB X ab nb cb l PX hx xa nx xc lx a2 n2 ms PO qo Bo Xo oa no co lo W' :=
  ⟨h.f.below hb, (hb.block _ (Array.getElem?_eq_some_iff.1 h.o).1).trans h.o, h.bo.below hb⟩
theorem Q6.all (h : Q6 w a len ls R q BB X ab nb cb l PX hx xa nx xc lx a2 n2 ms PO qo Bo Xo oa no co lo W) : W.cell? ⟨R, 0, none⟩ = some (.int .u8 (q 0)) ∧ W.cell? ⟨R, 1, none⟩ = some (.int .u8 (q 1)) ∧ W.cell? ⟨R, 2, none⟩ = some (.int .u8 (q 2)) ∧ W.cell? ⟨R, 3, none⟩ = some (.int .u8 (q 3)) ∧ W.cell? ⟨R, 4, none⟩ = some (.int .u8 (q 4)) ∧ W.cell? ⟨R, 5, none⟩ = some (.int .u8 (q 5)) ∧ W.cell? ⟨R, 6, none⟩ = some (.int .u8 (q 6)) ∧ W.cell? ⟨R, 7, none⟩ = some (.int .u8 (q 7)) ∧ W.cell? ⟨R, 8, none⟩ = some (.int .u16 BB) ∧ W.cell? ⟨R, 9, none⟩ = some (.int .u64 (Mk.H X)) ∧ W.cell? ⟨R, 10, none⟩ = some (.int .u64 (Mk.L X)) ∧ W.cell? ⟨R, 11, none⟩ = some (.slice ab nb cb) ∧ W.cell? ⟨PX, 0, none⟩ = some (.int .u8 (hx 0)) ∧ W.cell? ⟨PX, 1, none⟩ = some (.int .u8 (hx 1)) ∧ W.cell? ⟨PX, 2, none⟩ = some (.int .u8 (hx 2)) ∧ W.cell? ⟨PX, 3, none⟩ = some (.int .u8 (hx 3)) ∧ W.cell? ⟨PX, 4, none⟩ = some (.int .u8 (hx 4)) ∧ W.cell? ⟨PX, 5, none⟩ = some (.int .u8 (hx 5)) ∧ W.cell? ⟨PX, 6, none⟩ = some (.int .u8 (hx 6)) ∧ W.cell? ⟨PX, 7, none⟩ = some (.int .u8 (hx 7)) ∧ W.cell? ⟨PX, 8, none⟩ = some (.slice xa nx xc) ∧ W.cell? ⟨PO, 0, none⟩ = some (.int .u8 (qo 0)) ∧ W.cell? ⟨PO, 1, none⟩ = some (.int .u8 (qo 1)) ∧ W.cell? ⟨PO, 2, none⟩ = some (.int .u8 (qo 2)) ∧ W.cell? ⟨PO, 3, none⟩ = some (.int .u8 (qo 3)) ∧ W.cell? ⟨PO, 4, none⟩ = some (.int .u8 (qo 4)) ∧ W.cell? ⟨PO, 5, none⟩ = some (.int .u8 (qo 5)) ∧ W.cell? ⟨PO, 6, none⟩ = some (.int .u8 (qo 6)) ∧ W.cell? ⟨PO, 7, none⟩ = some (.int .u8 (qo 7)) ∧ W.cell? ⟨PO, 8, none⟩ = some (.int .u16 Bo) ∧ W.cell? ⟨PO, 9, none⟩ = some (.int .u64 (Mk.H Xo)) ∧ W.cell? ⟨PO, 10, none⟩ = some (.int .u64 (Mk.L Xo)) ∧ W.cell? ⟨PO, 11, none⟩ = some (.slice oa no co) ∧ Q6 w a len ls R q BB X ab nb cb l PX hx xa nx xc lx a2 n2 ms PO qo Bo Xo oa no co lo W := by
  refine ⟨?_, ?_, ?_, ?_, ?_, ?_, ?_, ?_, ?_, ?_, ?_, ?_, ?_, ?_, ?_, ?_, ?_, ?_, ?_, ?_, ?_, ?_, ?_, ?_, ?_, ?_, ?_, ?_, ?_, ?_, ?_, ?_, ?_, h⟩
  iterate 12 (rw [cell_of_row W _ _ _ _ _ h.f.t.rb]; rfl)
  iterate 9 (rw [cell_of_row W _ _ _ _ _ h.f.x]; rfl)
  iterate 12 (rw [cell_of_row W _ _ _ _ _ h.o]; rfl)
theorem Q6.of (h : W.cell? ⟨R, 0, none⟩ = some (.int .u8 (q 0)) ∧ W.cell? ⟨R, 1, none⟩ = some (.int .u8 (q 1)) ∧ W.cell? ⟨R, 2, none⟩ = some (.int .u8 (q 2)) ∧ W.cell? ⟨R, 3, none⟩ = some (.int .u8 (q 3)) ∧ W.cell? ⟨R, 4, none⟩ = some (.int .u8 (q 4)) ∧ W.cell? ⟨R, 5, none⟩ = some (.int .u8 (q 5)) ∧ W.cell? ⟨R, 6, none⟩ = some (.int .u8 (q 6)) ∧ W.cell? ⟨R, 7, none⟩ = some (.int .u8 (q 7)) ∧ W.cell? ⟨R, 8, none⟩ = some (.int .u16 BB) ∧ W.cell? ⟨R, 9, none⟩ = some (.int .u64 (Mk.H X)) ∧ W.cell? ⟨R, 10, none⟩ = some (.int .u64 (Mk.L X)) ∧ W.cell? ⟨R, 11, none⟩ = some (.slice ab nb cb) ∧ W.cell? ⟨PX, 0, none⟩ = some (.int .u8 (hx 0)) ∧ W.cell? ⟨PX, 1, none⟩ = some (.int .u8 (hx 1)) ∧ W.cell? ⟨PX, 2, none⟩ = some (.int .u8 (hx 2)) ∧ W.cell? ⟨PX, 3, none⟩ = some (.int .u8 (hx 3)) ∧ W.cell? ⟨PX, 4, none⟩ = some (.int .u8 (hx 4)) ∧ W.cell? ⟨PX, 5, none⟩ = some (.int .u8 (hx 5)) ∧ W.cell? ⟨PX, 6, none⟩ = some (.int .u8 (hx 6)) ∧ W.cell? ⟨PX, 7, none⟩ = some (.int .u8 (hx 7)) ∧ W.cell? ⟨PX, 8, none⟩ = some (.slice xa nx xc) ∧ W.cell? ⟨PO, 0, none⟩ = some (.int .u8 (qo 0)) ∧ W.cell? ⟨PO, 1, none⟩ = some (.int .u8 (qo 1)) ∧ W.cell? ⟨PO, 2, none⟩ = some (.int .u8 (qo 2)) ∧ W.cell? ⟨PO, 3, none⟩ = some (.int .u8 (qo 3)) ∧ W.cell? ⟨PO, 4, none⟩ = some (.int .u8 (qo 4)) ∧ W.cell? ⟨PO, 5, none⟩ = some (.int .u8 (qo 5)) ∧ W.cell? ⟨PO, 6, none⟩ = some (.int .u8 (qo 6)) ∧ W.cell? ⟨PO, 7, none⟩ = some (.int .u8 (qo 7)) ∧ W.cell? ⟨PO, 8, none⟩ = some (.int .u16 Bo) ∧ W.cell? ⟨PO, 9, none⟩ = some (.int .u64 (Mk.H Xo)) ∧ W.cell? ⟨PO, 10, none⟩ = some (.int .u64 (Mk.L Xo)) ∧ W.cell? ⟨PO, 11, none⟩ = some (.slice oa no co) ∧ Q6 w a len ls R q BB X ab nb cb l PX hx xa nx xc lx a2 n2 ms PO qo Bo Xo oa no co lo W) : Q6 w a len ls R q BB X ab nb cb l PX hx xa nx xc lx a2 n2 ms PO qo Bo Xo oa no co lo W := h.2.2.2.2.2.2.2.2.2.2.2.2.2.2.2.2.2.2.2.2.2.2.2.2.2.2.2.2.2.2.2.2.2
theorem Q6.belows (h : W.cell? ⟨R, 0, none⟩ = some (.int .u8 (q 0)) ∧ W.cell? ⟨R, 1, none⟩ = some (.int .u8 (q 1)) ∧ W.cell? ⟨R, 2, none⟩ = some (.int .u8 (q 2)) ∧ W.cell? ⟨R, 3, none⟩ = some (.int .u8 (q 3)) ∧ W.cell? ⟨R, 4, none⟩ = some (.int .u8 (q 4)) ∧ W.cell? ⟨R, 5, none⟩ = some (.int .u8 (q 5)) ∧ W.cell? ⟨R, 6, none⟩ = some (.int .u8 (q 6)) ∧ W.cell? ⟨R, 7, none⟩ = some (.int .u8 (q 7)) ∧ W.cell? ⟨R, 8, none⟩ = some (.int .u16 BB) ∧ W.cell? ⟨R, 9, none⟩ = some (.int .u64 (Mk.H X)) ∧ W.cell? ⟨R, 10, none⟩ = some (.int .u64 (Mk.L X)) ∧ W.cell? ⟨R, 11, none⟩ = some (.slice ab nb cb) ∧ W.cell? ⟨PX, 0, none⟩ = some (.int .u8 (hx 0)) ∧ W.cell? ⟨PX, 1, none⟩ = some (.int .u8 (hx 1)) ∧ W.cell? ⟨PX, 2, none⟩ = some (.int .u8 (hx 2)) ∧ W.cell? ⟨PX, 3, none⟩ = some (.int .u8 (hx 3)) ∧ W.cell? ⟨PX, 4, none⟩ = some (.int .u8 (hx 4)) ∧ W.cell? ⟨PX, 5, none⟩ = some (.int .u8 (hx 5)) ∧ W.cell? ⟨PX, 6, none⟩ = some (.int .u8 (hx 6)) ∧ W.cell? ⟨PX, 7, none⟩ = some (.int .u8 (hx 7)) ∧ W.cell? ⟨PX, 8, none⟩ = some (.slice xa nx xc) ∧ W.cell? ⟨PO, 0, none⟩ = some (.int .u8 (qo 0)) ∧ W.cell? ⟨PO, 1, none⟩ = some (.int .u8 (qo 1)) ∧ W.cell? ⟨PO, 2, none⟩ = some (.int .u8 (qo 2)) ∧ W.cell? ⟨PO, 3, none⟩ = some (.int .u8 (qo 3)) ∧ W.cell? ⟨PO, 4, none⟩ = some (.int .u8 (qo 4)) ∧ W.cell? ⟨PO, 5, none⟩ = some (.int .u8 (qo 5)) ∧ W.cell? ⟨PO, 6, none⟩ = some (.int .u8 (qo 6)) ∧ W.cell? ⟨PO, 7, none⟩ = some (.int .u8 (qo 7)) ∧ W.cell? ⟨PO, 8, none⟩ = some (.int .u16 Bo) ∧ W.cell? ⟨PO, 9, none⟩ = some (.int .u64 (Mk.H Xo)) ∧ W.cell? ⟨PO, 10, none⟩ = some (.int .u64 (Mk.L Xo)) ∧ W.cell? ⟨PO, 11, none⟩ = some (.slice oa no co) ∧ Q6 w a len ls R q BB X ab nb cb l PX hx xa nx xc lx a2 n2 ms PO qo Bo Xo oa no co lo W) (hb : Below W.heap.size W W') : W'.cell? ⟨R, 0, none⟩ = some (.int .u8 (q 0)) ∧ W'.cell? ⟨R, 1, none⟩ = some (.int .u8 (q 1)) ∧ W'.cell? ⟨R, 2, none⟩ = some (.int .u8 (q 2)) ∧ W'.cell? ⟨R, 3, none⟩ = some (.int .u8 (q 3)) ∧ W'.cell? ⟨R, 4, none⟩ = some (.int .u8 (q 4)) ∧ W'.cell? ⟨R, 5, none⟩ = some (.int .u8 (q 5)) ∧ W'.cell? ⟨R, 6, none⟩ = some (.int .u8 (q 6)) ∧ W'.cell? ⟨R, 7, none⟩ = some (.int .u8 (q 7)) ∧ W'.cell? ⟨R, 8, none⟩ = some (.int .u16 BB) ∧ W'.cell? ⟨R, 9, none⟩ = some (.int .u64 (Mk.H X)) ∧ W'.cell? ⟨R, 10, none⟩ = some (.int .u64 (Mk.L X)) ∧ W'.cell? ⟨R, 11, none⟩ = some (.slice ab nb cb) ∧ W'.cell? ⟨PX, 0, none⟩ = some (.int .u8 (hx 0)) ∧ W'.cell? ⟨PX, 1, none⟩ = some (.int .u8 (hx 1)) ∧ W'.cell? ⟨PX, 2, none⟩ = some (.int .u8 (hx 2)) ∧ W'.cell? ⟨PX, 3, none⟩ = some (.int .u8 (hx 3)) ∧ W'.cell? ⟨PX, 4, none⟩ = some (.int .u8 (hx 4)) ∧ W'.cell? ⟨PX, 5, none⟩ = some (.int .u8 (hx 5)) ∧ W'.cell? ⟨PX, 6, none⟩ = some (.int .u8 (hx 6)) ∧ W'.cell? ⟨PX, 7, none⟩ = some (.int .u8 (hx 7)) ∧ W'.cell? ⟨PX, 8, none⟩ = some (.slice xa nx xc) ∧ W'.cell? ⟨PO, 0, none⟩ = some (.int .u8 (qo 0)) ∧ W'.cell? ⟨PO, 1, none⟩ = some (.int .u8 (qo 1)) ∧ W'.cell? ⟨PO, 2, none⟩ = some (.int .u8 (qo 2)) ∧ W'.cell? ⟨PO, 3, none⟩ = some (.int .u8 (qo 3)) ∧ W'.cell? ⟨PO, 4, none⟩ = some (.int .u8 (qo 4)) ∧ W'.cell? ⟨PO, 5, none⟩ = some (.int .u8 (qo 5)) ∧ W'.cell? ⟨PO, 6, none⟩ = some (.int .u8 (qo 6)) ∧ W'.cell? ⟨PO, 7, none⟩ = some (.int .u8 (qo 7)) ∧ W'.cell? ⟨PO, 8, none⟩ = some (.int .u16 Bo) ∧ W'.cell? ⟨PO, 9, none⟩ = some (.int .u64 (Mk.H Xo)) ∧ W'.cell? ⟨PO, 10, none⟩ = some (.int .u64 (Mk.L Xo)) ∧ W'.cell? ⟨PO, 11, none⟩ = some (.slice oa no co) ∧ Q6 w a len ls R q BB X ab nb cb l PX hx xa nx xc lx a2 n2 ms PO qo Bo Xo oa no co lo W' := ((Q6.of h).below hb).all
theorem Q6.drews (h : W.cell? ⟨R, 0, none⟩ = some (.int .u8 (q 0)) ∧ W.cell? ⟨R, 1, none⟩ = some (.int .u8 (q 1)) ∧ W.cell? ⟨R, 2, none⟩ = some (.int .u8 (q 2)) ∧ W.cell? ⟨R, 3, none⟩ = some (.int .u8 (q 3)) ∧ W.cell? ⟨R, 4, none⟩ = some (.int .u8 (q 4)) ∧ W.cell? ⟨R, 5, none⟩ = some (.int .u8 (q 5)) ∧ W.cell? ⟨R, 6, none⟩ = some (.int .u8 (q 6)) ∧ W.cell? ⟨R, 7, none⟩ = some (.int .u8 (q 7)) ∧ W.cell? ⟨R, 8, none⟩ = some (.int .u16 BB) ∧ W.cell? ⟨R, 9, none⟩ = some (.int .u64 (Mk.H X)) ∧ W.cell? ⟨R, 10, none⟩ = some (.int .u64 (Mk.L X)) ∧ W.cell? ⟨R, 11, none⟩ = some (.slice ab nb cb) ∧ W.cell? ⟨PX, 0, none⟩ = some (.int .u8 (hx 0)) ∧ W.cell? ⟨PX, 1, none⟩ = some (.int .u8 (hx 1)) ∧ W.cell? ⟨PX, 2, none⟩ = some (.int .u8 (hx 2)) ∧ W.cell? ⟨PX, 3, none⟩ = some (.int .u8 (hx 3)) ∧ W.cell? ⟨PX, 4, none⟩ = some (.int .u8 (hx 4)) ∧ W.cell? ⟨PX, 5, none⟩ = some (.int .u8 (hx 5)) ∧ W.cell? ⟨PX, 6, none⟩ = some (.int .u8 (hx 6)) ∧ W.cell? ⟨PX, 7, none⟩ = some (.int .u8 (hx 7)) ∧ W.cell? ⟨PX, 8, none⟩ = some (.slice xa nx xc) ∧ W.cell? ⟨PO, 0, none⟩ = some (.int .u8 (qo 0)) ∧ W.cell? ⟨PO, 1, none⟩ = some (.int .u8 (qo 1)) ∧ W.cell? ⟨PO, 2, none⟩ = some (.int .u8 (qo 2)) ∧ W.cell? ⟨PO, 3, none⟩ = some (.int .u8 (qo 3)) ∧ W.cell? ⟨PO, 4, none⟩ = some (.int .u8 (qo 4)) ∧ W.cell? ⟨PO, 5, none⟩ = some (.int .u8 (qo 5)) ∧ W.cell? ⟨PO, 6, none⟩ = some (.int .u8 (qo 6)) ∧ W.cell? ⟨PO, 7, none⟩ = some (.int .u8 (qo 7)) ∧ W.cell? ⟨PO, 8, none⟩ = some (.int .u16 Bo) ∧ W.cell? ⟨PO, 9, none⟩ = some (.int .u64 (Mk.H Xo)) ∧ W.cell? ⟨PO, 10, none⟩ = some (.int .u64 (Mk.L Xo)) ∧ W.cell? ⟨PO, 11, none⟩ = some (.slice oa no co) ∧ Q6 w a len ls R q BB X ab nb cb l PX hx xa nx xc lx a2 n2 ms PO qo Bo Xo oa no co lo W) : W.drew.cell? ⟨R, 0, none⟩ = some (.int .u8 (q 0)) ∧ W.drew.cell? ⟨R, 1, none⟩ = some (.int .u8 (q 1)) ∧ W.drew.cell? ⟨R, 2, none⟩ = some (.int .u8 (q 2)) ∧ W.drew.cell? ⟨R, 3, none⟩ = some (.int .u8 (q 3)) ∧ W.drew.cell? ⟨R, 4, none⟩ = some (.int .u8 (q 4)) ∧ W.drew.cell? ⟨R, 5, none⟩ = some (.int .u8 (q 5)) ∧ W.drew.cell? ⟨R, 6, none⟩ = some (.int .u8 (q 6)) ∧ W.drew.cell? ⟨R, 7, none⟩ = some (.int .u8 (q 7)) ∧ W.drew.cell? ⟨R, 8, none⟩ = some (.int .u16 BB) ∧ W.drew.cell? ⟨R, 9, none⟩ = some (.int .u64 (Mk.H X)) ∧ W.drew.cell? ⟨R, 10, none⟩ = some (.int .u64 (Mk.L X)) ∧ W.drew.cell? ⟨R, 11, none⟩ = some (.slice ab nb cb) ∧ W.drew.cell? ⟨PX, 0, none⟩ = some (.int .u8 (hx 0)) ∧ W.drew.cell? ⟨PX, 1, none⟩ = some (.int .u8 (hx 1)) ∧ W.drew.cell? ⟨PX, 2, none⟩ = some (.int .u8 (hx 2)) ∧ W.drew.cell? ⟨PX, 3, none⟩ = some (.int .u8 (hx 3)) ∧ W.drew.cell? ⟨PX, 4, none⟩ = some (.int .u8 (hx 4)) ∧ W.drew.cell? ⟨PX, 5, none⟩ = some (.int .u8 (hx 5)) ∧ W.drew.cell? ⟨PX, 6, none⟩ = some (.int .u8 (hx 6)) ∧ W.drew.cell? ⟨PX, 7, none⟩ = some (.int .u8 (hx 7)) ∧ W.drew.cell? ⟨PX, 8, none⟩ = some (.slice xa nx xc) ∧ W.drew.cell? ⟨PO, 0, none⟩ = some (.int .u8 (qo 0)) ∧ W.drew.cell? ⟨PO, 1, none⟩ = some (.int .u8 (qo 1)) ∧ W.drew.cell? ⟨PO, 2, none⟩ = some (.int .u8 (qo 2)) ∧ W.drew.cell? ⟨PO, 3, none⟩ = some (.int .u8 (qo 3)) ∧ W.drew.cell? ⟨PO, 4, none⟩ = some (.int .u8 (qo 4)) ∧ W.drew.cell? ⟨PO, 5, none⟩ = some (.int .u8 (qo 5)) ∧ W.drew.cell? ⟨PO, 6, none⟩ = some (.int .u8 (qo 6)) ∧ W.drew.cell? ⟨PO, 7, none⟩ = some (.int .u8 (qo 7)) ∧ W.drew.cell? ⟨PO, 8, none⟩ = some (.int .u16 Bo) ∧ W.drew.cell? ⟨PO, 9, none⟩ = some (.int .u64 (Mk.H Xo)) ∧ W.drew.cell? ⟨PO, 10, none⟩ = some (.int .u64 (Mk.L Xo)) ∧ W.drew.cell? ⟨PO, 11, none⟩ = some (.slice oa no co) ∧ Q6 w a len ls R q BB X ab nb cb l PX hx xa nx xc lx a2 n2 ms PO qo Bo Xo oa no co lo W.drew := Q6.belows h ((Below.refl _ W).drew)
end
end Go.Proofs.Ytedhmoihlfjbdaa

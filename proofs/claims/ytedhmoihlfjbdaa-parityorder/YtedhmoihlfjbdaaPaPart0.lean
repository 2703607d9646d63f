
/-
  ParityParts: the plain side.
-/
import Derived.Test.YtedhmoihlfjbdaaPaSub
import Derived.Test.YtedhmoihlfjbdaaPaHolds
import Derived.Test.YtedhmoihlfjbdaaPaBlock
import Derived.Test.YtedhmoihlfjbdaaPaNumbers
namespace Go.Proofs.Ytedhmoihlfjbdaa
open Go.RowKit
set_option linter.unusedVariables false
theorem dn_cnt : ∀ n X, (Mk.dn n X).length = popN n X
  | 0, _ => rfl
  | n + 1, X => by
    rw [popN_add n 1 X]
    have h1 : popN 1 (X / 2 ^ n) = X / 2 ^ n % 2 := rfl
    rw [h1, ← dn_cnt n X]
    show (if X.testBit n then (127 - (n : Int)) :: Mk.dn n X else Mk.dn n X).length = _
    rw [Nat.testBit_eq_decide_div_mod_eq]
    by_cases e : X / 2 ^ n % 2 = 1
    · rw [decide_eq_true e, if_pos rfl, e]; rfl
    · rw [decide_eq_false e, if_neg (by decide)]; omega
theorem bits_cnt (X : Nat) : (Mk.bits X).length = Mk.cnt X := by rw [Mk.cnt_eq]; exact dn_cnt 128 X
/-- As many numbers as packets. -/
theorem Pa.seqs_cnt {ls : List (List Int)} (h : Pa.code ls = 0) : (Mk.bits (Pa.X ls)).length = ls.length := by
  rw [bits_cnt]
  have h2 : Cv.code (Pa.base ls) (Pa.seqs ls ls.length) ls.length = 0 := by
    unfold Pa.code at h
    repeat' split at h
    all_goals first | exact h | (cases h; done) | (exact absurd h (by assumption))
  exact ccnt h2
theorem all_from : ∀ (ls : List (List Int)) (s : List Int), Str.Ok s → (∀ l ∈ ls, Str.Ok l) → Str.all s ls = Str.xor s (Str.all [] ls)
  | [], s, hs, _ => (Str.xor_nil hs).symm
  | l :: ls, s, hs, h => by
    have hl := h l (List.mem_cons_self ..)
    have hr : ∀ m ∈ ls, Str.Ok m := fun m hm => h m (List.mem_cons_of_mem _ hm)
    show Str.all (Str.xor s l) ls = Str.xor s (Str.all (Str.xor [] l) ls)
    rw [all_from ls (Str.xor s l) (hs.xor hl) hr, all_from ls (Str.xor [] l) (Str.ok_nil.xor hl) hr, Str.nil_xor hl, Str.xor_assoc]
theorem all_app {xs ys : List (List Int)} (hx : ∀ l ∈ xs, Str.Ok l) (hy : ∀ l ∈ ys, Str.Ok l) : Str.all [] (xs ++ ys) = Str.xor (Str.all [] xs) (Str.all [] ys) := by
  have e : Str.all [] (xs ++ ys) = Str.all (Str.all [] xs) ys := by unfold Str.all; rw [List.foldl_append]
  rw [e]
  exact all_from ys _ (Str.all_ok xs [] Str.ok_nil hx) hy
theorem all_one {x : List Int} (h : Str.Ok x) : Str.all [] [x] = x := Str.nil_xor h
/-- All packets are bytes. -/
def PkB (ls : List (List Int)) : Prop := ∀ l ∈ ls, Str.Ok l ∧ l.length ≤ 1500
theorem ihd_Ok {l : List Int} (h : Str.Ok l ∧ l.length ≤ 1500) : Str.Ok (ihd l) := fun j => ihd_ok h.1 h.2 j
theorem drop_Ok {l : List Int} (h : Str.Ok l) (k : Nat) : Str.Ok (l.drop k) := fun i => by
  rw [List.getD_eq_getElem?_getD, List.getElem?_drop, ← List.getD_eq_getElem?_getD]; exact h _
theorem PkB.hd {ls : List (List Int)} (h : PkB ls) : ∀ l ∈ ls.map ihd, Str.Ok l := fun l hl => by obtain ⟨x, hx, rfl⟩ := List.mem_map.1 hl; exact ihd_Ok (h x hx)
theorem PkB.bd {ls : List (List Int)} (h : PkB ls) : ∀ l ∈ ls.map (List.drop 12), Str.Ok l := fun l hl => by obtain ⟨x, hx, rfl⟩ := List.mem_map.1 hl; exact drop_Ok (h x hx).1 12
theorem Pa.head_app {xs ys : List (List Int)} (hx : PkB xs) (hy : PkB ys) : Pa.head (xs ++ ys) = Str.xor (Pa.head xs) (Pa.head ys) := by
  unfold Pa.head; rw [List.map_append]; exact all_app hx.hd hy.hd
theorem Pa.body_app {xs ys : List (List Int)} (hx : PkB xs) (hy : PkB ys) : Pa.body (xs ++ ys) = Str.xor (Pa.body xs) (Pa.body ys) := by
  unfold Pa.body; rw [List.map_append]; exact all_app hx.bd hy.bd
theorem Pa.head_ok {ls : List (List Int)} (h : PkB ls) : Str.Ok (Pa.head ls) := Str.all_ok _ [] Str.ok_nil h.hd
theorem Pa.body_ok {ls : List (List Int)} (h : PkB ls) : Str.Ok (Pa.body ls) := Str.all_ok _ [] Str.ok_nil h.bd
theorem bx64 {x y : Int} (hx : 0 ≤ x ∧ x < 64) (hy : 0 ≤ y ∧ y < 64) : 0 ≤ Str.bx x y ∧ Str.bx x y < 64 := by
  unfold Str.bx
  have := Nat.xor_lt_two_pow (n := 6) (x := x.toNat) (y := y.toNat) (by omega) (by omega)
  omega
theorem all64 : ∀ (ls : List (List Int)) (s : List Int), 0 ≤ s.getD 0 0 ∧ s.getD 0 0 < 64 → (∀ l ∈ ls, 0 ≤ l.getD 0 0 ∧ l.getD 0 0 < 64) → 0 ≤ (Str.all s ls).getD 0 0 ∧ (Str.all s ls).getD 0 0 < 64
  | [], s, h, _ => h
  | l :: ls, s, h, hl => all64 ls (Str.xor s l) (by rw [Str.xor_at]; exact bx64 h (hl l (List.mem_cons_self ..))) (fun m hm => hl m (List.mem_cons_of_mem _ hm))
theorem Pa.head64 {ls : List (List Int)} (h : PkB ls) : (Pa.head ls).getD 0 0 % 64 = (Pa.head ls).getD 0 0 := by
  have := all64 (ls.map ihd) [] (by simp) (fun l hl => by
    obtain ⟨x, hx, rfl⟩ := List.mem_map.1 hl
    show 0 ≤ x.getD 0 0 % 64 ∧ x.getD 0 0 % 64 < 64
    omega)
  unfold Pa.head; omega
theorem Pa.holds_self {ls : List (List Int)} (hc : Pa.code ls = 0) (hb : PkB ls) : Pa.holds (fun j => (Pa.head ls).getD j 0) (Pa.base ls) (Pa.X ls) (Pa.body ls) ls = true := by
  unfold Pa.holds
  rw [decide_eq_true hc]
  simp only [Pa.head64 hb]
  simp
theorem gap_self (l : List Int) : Str.gap l l < 0 := by rw [Str.gap_none (fun _ => rfl)]; decide
theorem PkB.take {ls : List (List Int)} (h : PkB ls) (k : Nat) : PkB (ls.take k) := fun l hl => h l (List.mem_of_mem_take hl)
theorem PkB.drop {ls : List (List Int)} (h : PkB ls) (k : Nat) : PkB (ls.drop k) := fun l hl => h l (List.mem_of_mem_drop hl)
theorem getD_take {ls : List (List Int)} {k j : Nat} (h : j < k) : (ls.take k).getD j [] = ls.getD j [] := by
  rw [List.getD_eq_getElem?_getD, List.getElem?_take, if_pos h, ← List.getD_eq_getElem?_getD]
theorem getD_drop {ls : List (List Int)} (k j : Nat) : (ls.drop k).getD j [] = ls.getD (k + j) [] := by
  rw [List.getD_eq_getElem?_getD, List.getElem?_drop, ← List.getD_eq_getElem?_getD]
theorem code_take {ls : List (List Int)} (hok : PkOk ls) (hc : Pa.code ls = 0) {k : Nat} (h0 : 0 < k) (hk : k ≤ ls.length) : Pa.code (ls.take k) = 0 := by
  have hl : (ls.take k).length = k := by rw [List.length_take]; omega
  have hσ : ∀ j, j < (ls.take k).length → j < ls.length ∧ (ls.take k).getD j [] = ls.getD j [] := fun j hj => ⟨by omega, getD_take (by omega)⟩
  exact (Pa.good_iff (hok.sub (fun j => j) hσ)).2 (((Pa.good_iff hok).1 hc).sub (by omega) (by omega) (fun j => j) hσ (fun i j h1 h2 => by omega))
theorem code_drop {ls : List (List Int)} (hok : PkOk ls) (hc : Pa.code ls = 0) {k : Nat} (hk : k < ls.length) : Pa.code (ls.drop k) = 0 := by
  have hl : (ls.drop k).length = ls.length - k := List.length_drop
  have hσ : ∀ j, j < (ls.drop k).length → k + j < ls.length ∧ (ls.drop k).getD j [] = ls.getD (k + j) [] := fun j hj => ⟨by omega, getD_drop k j⟩
  exact (Pa.good_iff (hok.sub (fun j => k + j) hσ)).2 (((Pa.good_iff hok).1 hc).sub (by omega) (by omega) (fun j => k + j) hσ (fun i j h1 h2 => by omega))
theorem pick_first {ls : List (List Int)} (h : 0 < ls.length) : Pa.pick ls [0] 1 = ls.take 1 := by
  match ls, h with
  | x :: r, _ => rfl
theorem pick_last {ls : List (List Int)} (h : 0 < ls.length) : Pa.pick ls [((ls.length - 1 : Nat) : Int)] 1 = ls.drop (ls.length - 1) := by
  have e : ls.drop (ls.length - 1) = [ls.getD (ls.length - 1) []] := by
    rw [List.drop_eq_getElem_cons (by omega), show ls.length - 1 + 1 = ls.length by omega, List.drop_length, List.getD_eq_getElem?_getD, List.getElem?_eq_getElem (by omega)]; rfl
  rw [e]
  show [ls.getD (((ls.length - 1 : Nat) : Int)).toNat []] = _
  rw [Int.toNat_natCast]
/-- The shape of the first and the last one. -/
def shp (ls : List (List Int)) : List (List Int) := [[0], [((ls.length - 1 : Nat) : Int)]]
theorem shp_pk0 {ls : List (List Int)} (h : 0 < ls.length) : Pa.pk ls (shp ls) 0 = ls.take 1 := pick_first h
theorem shp_pk1 {ls : List (List Int)} (h : 0 < ls.length) : Pa.pk ls (shp ls) 1 = ls.drop (ls.length - 1) := pick_last h
theorem shp_code {ls : List (List Int)} (hok : PkOk ls) (hc : Pa.code ls = 0) (h : 0 < ls.length) : Pa.bcode ls (shp ls) 2 = 0 := by
  have s0 : Pa.scode ls (shp ls) 0 = 0 := by
    unfold Pa.scode
    rw [shp_pk0 h, code_take hok hc (by omega) (by omega)]
    have : Pa.wok ls.length ((shp ls).getD 0 []) ((shp ls).getD 0 []).length = true := by
      show (true && (decide ((0 : Int) ≤ 0 ∧ (0 : Int) < ls.length) && !([] : List Int).contains 0)) = true
      rw [decide_eq_true ⟨by omega, by omega⟩]; rfl
    rw [this, if_neg (by decide)]
  have s1 : Pa.scode ls (shp ls) 1 = 0 := by
    unfold Pa.scode
    rw [shp_pk1 h, code_drop hok hc (by omega)]
    have : Pa.wok ls.length ((shp ls).getD 1 []) ((shp ls).getD 1 []).length = true := by
      show (true && (decide ((0 : Int) ≤ ((ls.length - 1 : Nat) : Int) ∧ ((ls.length - 1 : Nat) : Int) < ls.length) && !([] : List Int).contains ((ls.length - 1 : Nat) : Int))) = true
      rw [decide_eq_true ⟨by omega, by omega⟩]; rfl
    rw [this, if_neg (by decide)]
  show (if (if (0 : Int) ≠ 0 then (0 : Int) else Pa.scode ls (shp ls) 0) ≠ 0 then (if (0 : Int) ≠ 0 then (0 : Int) else Pa.scode ls (shp ls) 0) else Pa.scode ls (shp ls) 1) = 0
  rw [s0, s1]; rfl
theorem X_one {ls : List (List Int)} (h : ls.length = 1) (hok : PkOk ls) : Pa.X ls = 2 ^ 127 := by
  have hz := hok 0 (by omega)
  have hz0 : (Pa.seqs ls 1).getD 0 0 = (ppk (ls.getD 0 [])).seq := Pa.seqs_at ls (by omega)
  have hb : Pa.base ls = (ppk (ls.getD 0 [])).seq := by
    have hn : Near (Pa.seqs ls 1) 1 (ppk (ls.getD 0 [])).seq := fun j hj => by
      obtain rfl : j = 0 := by omega
      rw [hz0]; unfold Ser.ahead; omega
    have hu : U16 (Pa.seqs ls 1) 1 := fun j hj => by
      obtain rfl : j = 0 := by omega
      rw [hz0]; exact hz
    obtain ⟨m, hm, e, _⟩ := base_near (by omega) hu hn
    obtain rfl : m = 0 := by omega
    unfold Pa.base; rw [h, e, hz0]
  unfold Pa.X
  rw [h, hb]
  show (0 ||| Mk.one (Ser.ahead ((Pa.seqs ls 1).getD 0 0) (ppk (ls.getD 0 [])).seq)) = _
  rw [hz0, Nat.zero_or, Mk.one_eq, show Ser.ahead (ppk (ls.getD 0 [])).seq (ppk (ls.getD 0 [])).seq = 0 from by unfold Ser.ahead; omega]
  rfl
theorem H_127 : Mk.H (2 ^ 127) = 9223372036854775808 := by decide +kernel
theorem L_127 : Mk.L (2 ^ 127) = 0 := by decide +kernel
end Go.Proofs.Ytedhmoihlfjbdaa

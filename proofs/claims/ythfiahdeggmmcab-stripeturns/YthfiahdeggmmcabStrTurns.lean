/-
  StripeTurns' walk.
-/
import Derived.Test.YthfiahdeggmmcabStrRows
namespace Go.Proofs.Ythfiahdeggmmcab
open Go.RowKit Go.Shelf
set_option linter.unusedVariables false
set_option maxHeartbeats 2000000 in
set_option maxRecDepth 100000 in
theorem turns_out (a0 : Option Addr) (len c0 : Nat) (A : Nat → Option Addr) (L C : Nat → Nat) (a1 : Option Addr) (n c1 : Nat) (at' : Int) (w : World) (hv : VAt w a0 len A L C) (hlen : len ≤ 9223372036854775807) (h : smallB len L = false ∨ 500 < n) :
    Calls Try.prog 3 #[.slice a0 len c0, .slice a1 n c1, .int .i64 at'] w (TrueBelow w) := by
  by_cases h1 : smallB len L = false
  · clear h
    have hs : ∀ W, Below w.heap.size w W → Calls Try.prog 6 #[.slice a0 len c0] W (SameV (.bool false) W) := fun W hB => by rw [← h1]; exact small_any a0 len c0 A L C W (hv.below hB) hlen
    have HS := Lib.hid hs; clear hs h1 hv
    go_enter Try.func3, Try.ntmps3
    go_wp2_with (first
      | (go_at_call 5; refine (alive_any _).mono ?_; rintro e w1 ⟨rfl, hB⟩)
      | (go_at_call 6; refine (HS.out _ hB).mono ?_; rintro e w2 ⟨rfl, rfl⟩))
    go_ret
    exact ⟨rfl, hB⟩
  · have h2 : 500 < n := by rcases h with h | h; exact absurd h h1; exact h
    have h3 : (500 : Int) < (n : Int) := by omega
    have h1' : smallB len L = true := by simpa using h1
    have hs : ∀ W, Below w.heap.size w W → Calls Try.prog 6 #[.slice a0 len c0] W (SameV (.bool true) W) := fun W hB => by rw [← h1']; exact small_any a0 len c0 A L C W (hv.below hB) hlen
    have HS := Lib.hid hs; clear hs h1 h1' hv h
    go_enter Try.func3, Try.ntmps3
    go_wp2_with (first
      | (go_at_call 5; refine (alive_any _).mono ?_; rintro e w1 ⟨rfl, hB⟩)
      | (go_at_call 6; refine (HS.out _ hB).mono ?_; rintro e w2 ⟨rfl, rfl⟩))
    go_ret
    exact ⟨rfl, hB⟩
theorem xorp_any (a b : Option Addr) (n m c d p : Nat) (la lb : List Int) (w : World) (ha : BAt w a n la) (hb : BAt w b m lb) (hn : n ≤ 140737488355328) (hm : m ≤ 140737488355328) (hp : max n m = p) :
    Calls Try.prog 9 #[.slice a n c, .slice b m d] w (NewB p (Str.xor la lb) w) := by rw [← hp]; exact xor_any a b n m c d la lb w ha hb hn hm
/-- What stands while StripeTurns goes on. -/
def TurnSt (w : World) (a0 : Option Addr) (len : Nat) (A : Nat → Option Addr) (L C : Nat → Nat) (ls : List (List Int)) (a1 : Option Addr) (n : Nat) (lb : List Int) (W : World) : Prop :=
  RIn W a0 len A L C ls ∧ BAt W a1 n lb ∧ Below w.heap.size w W
theorem TurnSt.below {w : World} {a0 : Option Addr} {len : Nat} {A : Nat → Option Addr} {L C : Nat → Nat} {ls : List (List Int)} {a1 : Option Addr} {n : Nat} {lb : List Int} {W W' : World} (h : TurnSt w a0 len A L C ls a1 n lb W) (hb : Below W.heap.size W W') : TurnSt w a0 len A L C ls a1 n lb W' :=
  ⟨h.1.below hb, h.2.1.below hb, h.2.2.trans (hb.mono h.2.2.size)⟩
def TurnSt2 (w : World) (a0 : Option Addr) (len : Nat) (A : Nat → Option Addr) (L C : Nat → Nat) (ls : List (List Int)) (a7 : Option Addr) (ll : Nat) (la : List Int) (W : World) : Prop :=
  RIn W a0 len A L C ls ∧ BAt W a7 ll la ∧ Below w.heap.size w W
theorem TurnSt2.below {w : World} {a0 : Option Addr} {len : Nat} {A : Nat → Option Addr} {L C : Nat → Nat} {ls : List (List Int)} {a7 : Option Addr} {ll : Nat} {la : List Int} {W W' : World} (h : TurnSt2 w a0 len A L C ls a7 ll la W) (hb : Below W.heap.size W W') : TurnSt2 w a0 len A L C ls a7 ll la W' :=
  ⟨h.1.below hb, h.2.1.below hb, h.2.2.trans (hb.mono h.2.2.size)⟩
/-- The places but the r-th. -/
def skip1 (r j : Nat) : Nat := if j < r then j else j + 1
theorem skip1_map {α : Type} (f : Nat → α) (r m : Nat) : ((List.range r).map f) ++ ((List.range m).map fun j => f (r + 1 + j)) = (List.range (r + m)).map fun j => f (skip1 r j) := by
  apply List.ext_getElem?
  intro i
  rw [List.getElem?_append]
  simp only [List.length_map, List.length_range, List.getElem?_map]
  by_cases h1 : i < r
  · rw [if_pos h1, List.getElem?_range h1, List.getElem?_range (by omega)]
    simp [skip1, h1]
  · rw [if_neg h1]
    by_cases h2 : i < r + m
    · rw [List.getElem?_range (by omega), List.getElem?_range h2]
      simp only [Option.map_some, skip1, if_neg h1]
      congr 2; omega
    · rw [List.getElem?_eq_none (by simp; omega), List.getElem?_eq_none (by simp; omega)]; rfl
theorem skip1_at (ls : List (List Int)) (r j : Nat) (hr : r < ls.length) (hj : j < ls.length - 1) : (ls.take r ++ ls.drop (r + 1)).getD j [] = ls.getD (skip1 r j) [] := by
  rw [List.getD_eq_getElem?_getD, List.getD_eq_getElem?_getD, List.getElem?_append]
  simp only [List.length_take, skip1]
  by_cases h1 : j < r
  · rw [if_pos (by omega), if_pos h1, List.getElem?_take, if_pos h1]
  · rw [if_neg (by omega), if_neg h1, List.getElem?_drop]
    congr 2; omega
theorem TurnSt2.src {w : World} {b o len : Nat} {A : Nat → Option Addr} {L C : Nat → Nat} {ls : List (List Int)} {a7 : Option Addr} {ll : Nat} {la : List Int} {W : World} (h : TurnSt2 w (some ⟨b, o, none⟩) len A L C ls a7 ll la W) (s m : Nat) (hm : s + m ≤ len) :
    ∀ j u, ((List.range m).map fun j => Value.slice (A (s + j)) (L (s + j)) (C (s + j)))[j]? = some u → W.cell? ((⟨b, o + s, none⟩ : Addr).add j) = some u := fun j u hu => by
  have hj : j < m := by have := (List.getElem?_eq_some_iff.1 hu).1; simpa using this
  obtain ⟨b', o', hro⟩ := h.1.row
  obtain ⟨e, _, hc⟩ := hro (s + j) (by omega)
  cases e
  rw [show (Addr.add ⟨b, o + s, none⟩ j) = ⟨b, o + (s + j), none⟩ from by unfold Addr.add; split <;> simp_all [Nat.add_assoc], hc]
  rw [List.getElem?_map, List.getElem?_range hj] at hu
  simpa using hu
def TurnSt3 (w : World) (a7 : Option Addr) (ll : Nat) (la : List Int) (a13 : Option Addr) (n13 : Nat) (lso : List (List Int)) (ar : Option Addr) (lr : Nat) (row : List Int) (W : World) : Prop :=
  BAt W a7 ll la ∧ RAt W a13 n13 lso ∧ BAt W ar lr row ∧ Below w.heap.size w W
theorem ts3_below {w : World} {a7 : Option Addr} {ll : Nat} {la : List Int} {a13 : Option Addr} {n13 : Nat} {lso : List (List Int)} {ar : Option Addr} {lr : Nat} {row : List Int} {W W' : World} {p : Addr} {v : Value}
    (h : TurnSt3 w a7 ll la a13 n13 lso ar lr row W ∧ W.cell? p = some v) (hb : Below W.heap.size W W') : TurnSt3 w a7 ll la a13 n13 lso ar lr row W' ∧ W'.cell? p = some v :=
  ⟨⟨h.1.1.below hb, h.1.2.1.below hb, h.1.2.2.1.below hb, h.1.2.2.2.trans (hb.mono h.1.2.2.2.size)⟩, (hb.cell (World.block_lt_of_cell? W p h.2)).trans h.2⟩
set_option maxHeartbeats 2000000 in
set_option maxRecDepth 100000 in
theorem turns_in (a0 : Option Addr) (len c0 : Nat) (A : Nat → Option Addr) (L C : Nat → Nat) (ls : List (List Int)) (a1 : Option Addr) (n c1 : Nat) (lb : List Int) (at' : Int) (w : World)
    (hr : RIn w a0 len A L C ls) (hb : BAt w a1 n lb) (hlen : len ≤ 30) (hn : n ≤ 500) (hc0 : len ≤ c0) :
    Calls Try.prog 3 #[.slice a0 len c0, .slice a1 n c1, .int .i64 at'] w (TrueBelow w) := by
  have hst : TurnSt w a0 len A L C ls a1 n lb w := ⟨hr, hb, Below.refl _ _⟩
  have HST := Lib.hid hst
  have hsm : smallB len L = true := decide_eq_true ⟨fun k hk => (hr.each k hk).2, hlen⟩
  have hs : ∀ W, TurnSt w a0 len A L C ls a1 n lb W → Calls Try.prog 6 #[.slice a0 len c0] W (SameV (.bool true) W) := fun W h => by
    obtain ⟨b, o, hro⟩ := h.1.row
    rw [← hsm]; exact small_any a0 len c0 A L C W ⟨b, o, fun k hk => ⟨(hro k hk).1, (hro k hk).2.1, (hro k hk).2.2, by have := (h.1.each k hk).2; omega⟩⟩ (by omega)
  have HS := Lib.hid hs; clear hs hsm
  have hok := hr.ok
  have hLA : (Str.all [] ls).length ≤ 500 := Str.all_len ls [] 500 (by simp) hr.short
  have hoA : Str.Ok (Str.all [] ls) := Str.all_ok ls [] Str.ok_nil hok
  have hoB := hb.ok
  have AL : Hid (∀ W, TurnSt w a0 len A L C ls a1 n lb W → Calls Try.prog 7 #[.slice a0 len c0] W (NewB (Str.all [] ls).length (Str.all [] ls) W)) := Lib.hid fun W h => all_any a0 len c0 ls W h.1.rat (by omega)
  have hg1 := gap_twice (Str.all [] ls) lb hoA
  have hg2 := gap_self (Str.all [] ls)
  have hcount := hr.count
  have HOK := Lib.hid hok; have HC := Lib.hid hcount
  clear hok hr hb hst hcount
  have hrev : Hid (Str.all [] ls.reverse = Str.all [] ls) := Lib.hid (Str.all_perm (List.reverse_perm ls) [])
  have hlost : Hid (∀ k, k < len → Str.fit (Str.xor (Str.all [] ls) (Str.all [] (ls.take k ++ ls.drop (k + 1)))) (ls.getD k []).length = ls.getD k []) := Lib.hid fun k hk => Str.all_lost ls k (by rw [HC.out]; exact hk) HOK.out
  generalize Str.all [] ls = la at AL hg1 hg2 hLA hoA hrev hlost
  generalize hLe : la.length = ll at AL hLA
  have HLE := Lib.hid hLe; clear hLe
  have G1 := Lib.hid hg1; have G2 := Lib.hid hg2; have HOA := Lib.hid hoA; have HOB := Lib.hid hoB; clear hg1 hg2 hoA hoB
  have h5 : ¬ (500 : Int) < (n : Int) := by omega
  go_enter Try.func3, Try.ntmps3
  go_wp2_with fail
  refine (alive_any _).mono ?_
  rintro e w1 ⟨rfl, hB1⟩
  have HS1 := Lib.hid (HST.out.below hB1); clear hB1 HST
  go_wp2_with fail
  refine (HS.out _ HS1.out).mono ?_
  rintro e w1' ⟨rfl, rfl⟩
  go_wp2_with fail
  refine (AL.out _ HS1.out).mono ?_
  rintro e w2 ⟨a7, c7, rfl, hO2, hB2⟩
  have HS2 := Lib.hid (HS1.out.below hB2); have HA2 := Lib.hid hO2.bat; clear hO2 hB2 HS1
  go_wp2_with fail
  obtain ⟨p, hp1, hp2, hp3⟩ : ∃ p, max ll n = p ∧ max p n = p ∧ p ≤ 500 := ⟨max ll n, rfl, by omega, by omega⟩
  have P1 := Lib.hid hp1; have P2 := Lib.hid hp2; clear hp1 hp2
  refine (xorp_any a7 a1 ll n c7 c1 p la lb w2 HA2.out HS2.out.2.1 (by omega) (by omega) P1.out).mono ?_
  rintro e w3 ⟨a3, c3, rfl, hO3, hB3⟩
  have HS3 := Lib.hid (HS2.out.below hB3); have HA3 := Lib.hid (HA2.out.below hB3); have HO3 := Lib.hid hO3; clear hO3 hB3 HS2 HA2
  go_wp2_with fail
  refine (xorp_any a3 a1 p n c3 c1 p (Str.xor la lb) lb w3 HO3.out.bat HS3.out.2.1 (by omega) (by omega) P2.out).mono ?_
  rintro e w4 ⟨a4, c4, rfl, hO4, hB4⟩
  have HS4 := Lib.hid (HS3.out.below hB4); have HA4 := Lib.hid (HA3.out.below hB4); have HO4 := Lib.hid hO4; clear hO4 hB4 HS3 HA3 HO3
  go_wp2_with fail
  refine (gap_any a4 a7 p ll c4 c7 _ la w4 HO4.out.bat HA4.out).mono ?_
  rw [G1.out]
  rintro e w4' ⟨rfl, rfl⟩
  clear HO4
  go_wp2_with fail
  refine (xorp_any a7 a7 ll ll c7 c7 ll la la w4 HA4.out HA4.out (by omega) (by omega) (Nat.max_self _)).mono ?_
  rintro e w5 ⟨a5, c5, rfl, hO5, hB5⟩
  have HS5 := Lib.hid (HS4.out.below hB5); have HA5 := Lib.hid (HA4.out.below hB5); have HO5 := Lib.hid hO5; clear hO5 hB5 HS4 HA4
  go_wp2_with fail
  refine (zero_any a5 ll c5 _ w5 HO5.out.bat).mono ?_
  rw [G2.out]
  rintro e w5' ⟨rfl, rfl⟩
  clear HO5
  go_wp2_with fail
  go_loopw [8, 42] (fun s i wr => ∃ (k : Nat) (a' : Option Addr) (c' : Nat), k ≤ len ∧ i = .int .i64 k ∧ s = .slice a' k c' ∧ Hid (wr.ownsRow w5.heap.size 23 1 (.slice a' k c') k ((List.range k).map fun j => .slice (A (len - 1 - j)) (L (len - 1 - j)) (C (len - 1 - j))) ∧ Below w5.heap.size w5 wr)) (fun _ i _ => len - (intOf i).toNat)
  case atStart => exact ⟨0, _, _, Nat.zero_le _, rfl, rfl, Lib.hid ⟨⟨rfl, .inr ⟨w5.heap.size, 0, #[], rfl, Nat.le_refl _, heap_alloc_new w5 _, Nat.le_refl _, Nat.zero_le _, rfl, rfl⟩⟩, (Below.refl _ w5).alloc (Nat.le_refl _) _⟩⟩
  case round =>
    obtain ⟨k, a', c', hk, rfl, rfl, HW⟩ := hrel
    by_cases hlt : k < len
    · have hltz : (k : Int) < (len : Int) := by omega
      obtain ⟨j, hj⟩ : ∃ j : Nat, j = len - 1 - k := ⟨_, rfl⟩
      obtain ⟨b, o, hro⟩ := (HS5.out.below HW.out.2).1.row
      obtain ⟨rfl, _, d⟩ := hro j (by omega)
      have i1 : (0 : Int) ≤ (len : Int) - 1 - (k : Int) := by omega
      have i2 : (len : Int) - 1 - (k : Int) < (len : Int) := by omega
      have i3 : ((len : Int) - 1 - (k : Int)).toNat = j := by omega
      have hsn : ((List.range k).map fun j => Value.slice (A (len - 1 - j)) (L (len - 1 - j)) (C (len - 1 - j))) ++ [.slice (A j) (L j) (C j)] = (List.range (k + 1)).map fun j => Value.slice (A (len - 1 - j)) (L (len - 1 - j)) (C (len - 1 - j)) := by
        rw [List.range_succ, List.map_append, hj]; rfl
      have HSN := Lib.hid hsn; clear hsn hro hj
      generalize A j = aj at d HSN
      generalize L j = lj at d HSN
      generalize C j = cj at d HSN
      have hb0 : Below wr.heap.size wr (wr.alloc (.cells #[.slice aj lj cj] 23)) := (Below.refl _ wr).alloc (Nat.le_refl _) _
      obtain ⟨a6, c6, w6, hrun, hO6, hg6, _⟩ := append_slices (wr.alloc (.cells #[.slice aj lj cj] 23)) 22 w5.heap.size a' k c' _ (HW.out.1.alloc _) (some ⟨wr.heap.size, 0, none⟩) 1 1 [.slice aj lj cj] rfl (fun _ => ⟨_, rfl, cell_one_new _ _ _⟩) (by simp [Value.oneCell']) (by omega) (by have := HW.out.2.size; simp; omega)
      have hB6 : Below w5.heap.size w5 w6 := (HW.out.2.alloc HW.out.2.size _).grown hg6 (by have := HW.out.2.size; simp; omega) (fun x e => by
        cases a' with
        | none => cases e
        | some y => have := (HW.out.1.lt y.block rfl).1; simp at e; omega)
      have HRUN := Lib.hid hrun; have HO6 := Lib.hid hO6; have HB6 := Lib.hid hB6
      clear hrun hO6 hg6 hB6 hb0
      go_wp2_with (at_builtin; refine Lib.wpList_append_run _ rfl (.tmp 45) (.tmp 54) 22 22 rfl (.slice a' k c') _ (by rfl) (by rfl) _ _ HRUN.out ?_)
      go_roundw
      case rel => exact ⟨k + 1, a6, c6, by omega, by go_num, rfl, Lib.hid ⟨HSN.out ▸ HO6.out, HB6.out⟩⟩
      case measure => simp [intOf]; omega
    · have hltz : ¬ (k : Int) < (len : Int) := by omega
      obtain rfl : k = len := by omega
      have HSW := Lib.hid (HS5.out.below HW.out.2); have HAW := Lib.hid (HA5.out.below HW.out.2)
      have hrat : RAt wr a' k ls.reverse := rat_own HW.out.1 (by rw [List.length_reverse]; exact HC.out) (fun j hj => by
        have e : ls.reverse.getD j [] = ls.getD (k - 1 - j) [] := by
          rw [List.getD_eq_getElem?_getD, List.getElem?_reverse (by rw [HC.out]; exact hj), HC.out, ← List.getD_eq_getElem?_getD]
        rw [e]; exact HSW.out.1.each (k - 1 - j) (by omega))
      have hall := all_any a' k c' ls.reverse wr hrat (by omega)
      rw [hrev.out, HLE.out] at hall
      have HALL := Lib.hid hall
      clear hall hrat HS5 HA5 HW
      go_wp2_with fail
      refine (HALL.out).mono ?_
      rintro e w7 ⟨a8, c8, rfl, hO7, hB7⟩
      have HS7 := Lib.hid (HSW.out.below hB7); have HA7 := Lib.hid (HAW.out.below hB7); have HO7 := Lib.hid hO7; clear hO7 hB7 HSW HAW HALL
      go_wp2_with fail
      refine (same_any a8 a7 ll ll c8 c7 la la w7 HO7.out.bat HA7.out).mono ?_
      rw [decide_eq_true rfl]
      rintro e w8 ⟨rfl, j8, rfl⟩
      have HS8 := Lib.hid (HS7.out.below (below_drewN w7 _ j8)); have HA8 := Lib.hid (HA7.out.below (below_drewN w7 _ j8)); clear HS7 HA7 HO7
      go_wp2_with fail
      refine (xorp_any a1 a7 n ll c1 c7 p lb la _ HS8.out.2.1 HA8.out (by omega) (by omega) (by rw [Nat.max_comm]; exact P1.out)).mono ?_
      rintro e w9 ⟨a9, c9, rfl, hO9, hB9⟩
      have HS9 := Lib.hid (HS8.out.below hB9); have HA9 := Lib.hid (HA8.out.below hB9); have HO9 := Lib.hid hO9; clear hO9 hB9 HS8 HA8
      go_wp2_with fail
      refine (xorp_any a7 a1 ll n c7 c1 p la lb _ HA9.out HS9.out.2.1 (by omega) (by omega) P1.out).mono ?_
      rintro e w10 ⟨a10, c10, rfl, hO10, hB10⟩
      have HS10 := Lib.hid (HS9.out.below hB10); have HA10 := Lib.hid (HA9.out.below hB10); have HO10 := Lib.hid hO10; have HO9' := Lib.hid (HO9.out.below hB10); clear hO10 hB10 HS9 HA9 HO9
      go_wp2_with fail
      refine (same_any a9 a10 p p c9 c10 _ _ w10 HO9'.out.bat HO10.out.bat).mono ?_
      rw [decide_eq_true (Str.xor_comm lb la)]
      rintro e w11 ⟨rfl, j11, rfl⟩
      have HS11 := Lib.hid (HS10.out.below (below_drewN w10 _ j11)); have HA11 := Lib.hid (HA10.out.below (below_drewN w10 _ j11)); clear HS10 HA10 HO10 HO9'
      by_cases hk0 : k = 0
      · subst hk0
        have hl0 : ll = 0 := by
          have h1 : ls = [] := List.eq_nil_of_length_eq_zero HC.out
          have h2 := hrev.out
          rw [h1] at h2
          rw [← HLE.out, ← h2]; rfl
        subst hl0
        go_wp2
        go_ret
        exact ⟨rfl, HS11.out.2.2⟩
      · have hkz : ((k : Int) == 0) = false := by simpa using hk0
        have e1 := and1023 at'
        obtain ⟨q, hq⟩ : ∃ q : Nat, at' % 1024 = q := ⟨(at' % 1024).toNat, by omega⟩
        rw [hq] at e1
        have hq1 : q < 1024 := by omega
        have e3 : ((q : Int)).tmod (k : Int) = ((q % k : Nat) : Int) := by rw [Int.tmod_eq_emod_of_nonneg (by omega)]; simp
        have hr1 : q % k < k := Nat.mod_lt _ (by omega)
        generalize q % k = r at e3 hr1
        have hst : TurnSt2 w a0 k A L C ls a7 ll la (w10.drewN j11) := ⟨HS11.out.1, HA11.out, HS11.out.2.2⟩
        obtain ⟨b, o, hro⟩ := HS11.out.1.row
        obtain ⟨rfl, _, _⟩ := hro 0 (by omega)
        clear HS11 HA11 hro
        generalize w10.drewN j11 = W at hst ⊢
        have i1 : (0 : Int) ≤ (r : Int) := by omega
        have i2 : (r : Int) ≤ (k : Int) := by omega
        have i3 : (k : Int) ≤ (c0 : Int) := by omega
        have i4 : (r : Int) ≤ (c0 : Int) := by omega
        have i8 : IntKind.i64.wrap ((r : Int) + 1) = (r : Int) + 1 := IntWalk.i64_in _ (by omega)
        obtain ⟨aR, haR⟩ : ∃ aR : Option Addr, aR = if c0 = r + 1 then some ⟨b, o, none⟩ else some ⟨b, o + (r + 1), none⟩ := ⟨_, rfl⟩
        obtain ⟨mR, hmR⟩ : ∃ mR, mR = k - (r + 1) := ⟨_, rfl⟩
        obtain ⟨cR, hcR⟩ : ∃ cR, cR = c0 - (r + 1) := ⟨_, rfl⟩
        have hsl : ∀ w, (Instr.slice 22 (.slice (some ⟨b, o, none⟩) k c0) (some (.int .i64 ((r : Int) + 1))) none none).run Try.prog w = .ok (.slice aR mR cR) w := fun w => by
          rw [run_slice_l w 22 (some ⟨b, o, none⟩) k c0 Try.underlying22 .i64 ((r : Int) + 1) (by omega) (by omega), show ((r : Int) + 1).toNat = r + 1 by omega, haR, hmR, hcR]
          simp only [sliced]
          split <;> simp [go_sem, Addr.add]
        have HAR := Lib.hid haR; have HMR := Lib.hid hmR; have HCR := Lib.hid hcR
        clear haR hmR hcR
        have hW1 : Below W.heap.size W ((W.alloc (.cells #[] 23)).drew) := ((Below.refl _ W).alloc (Nat.le_refl _) _).drew
        have hst1 := hst.below hW1
        obtain ⟨a12, c12, w12, hrun1, hO12, hg12, hl12⟩ := append_slices ((W.alloc (.cells #[] 23)).drew) 22 W.heap.size (some ⟨W.heap.size, 0, none⟩) 0 0 [] ⟨rfl, .inr ⟨W.heap.size, 0, #[], rfl, Nat.le_refl _, heap_alloc_new W _, Nat.le_refl _, Nat.zero_le _, rfl, rfl⟩⟩
          (some ⟨b, o, none⟩) r c0 ((List.range r).map fun j => .slice (A j) (L j) (C j)) (by simp) (fun _ => ⟨_, rfl, by have := hst1.src 0 r (by omega); simpa using this⟩) (by intro u hu; simp at hu; obtain ⟨j, _, rfl⟩ := hu; rfl) (by omega) (by simp)
        rw [Nat.zero_add] at hrun1 hO12
        rw [List.nil_append] at hO12
        have hB12 : Below W.heap.size W w12 := hW1.grown hg12 (by simp) (fun x e => by cases e; exact Nat.le_refl _)
        have hst12 := hst.below hB12
        have hsrc2 : 0 < mR → ∃ x, aR = some x ∧ ∀ j u, ((List.range mR).map fun j => Value.slice (A (r + 1 + j)) (L (r + 1 + j)) (C (r + 1 + j)))[j]? = some u → w12.cell? (x.add j) = some u := fun hm => by
          have h1 := HMR.out; have h2 := HAR.out
          rw [if_neg (by omega)] at h2
          exact ⟨_, h2, hst12.src (r + 1) mR (by omega)⟩
        obtain ⟨a13, c13, w13, hrun2, hO13, hg13, hl13⟩ := append_slices w12 22 W.heap.size a12 r c12 _ hO12 aR mR cR ((List.range mR).map fun j => .slice (A (r + 1 + j)) (L (r + 1 + j)) (C (r + 1 + j))) (by simp) hsrc2 (by intro u hu; simp at hu; obtain ⟨j, _, rfl⟩ := hu; rfl) (by have := HMR.out; omega) hB12.size
        rw [skip1_map (fun j => Value.slice (A j) (L j) (C j)) r mR] at hO13
        have hB13 : Below W.heap.size W w13 := hB12.grown hg13 hB12.size (fun x e => by
          cases a12 with
          | none => cases e
          | some y => have := (hO12.lt y.block rfl).1; simp at e; omega)
        have hst13 := hst.below hB13
        have hrat : RAt w13 a13 (r + mR) (ls.take r ++ ls.drop (r + 1)) := rat_own hO13 (by have := HMR.out; have := HC.out; simp; omega) (fun j hj => by
          have := HMR.out; have h2 := HC.out
          rw [skip1_at ls r j (by omega) (by omega)]
          exact hst13.1.each (skip1 r j) (by unfold skip1; split <;> omega))
        have HRUN1 := Lib.hid hrun1; have HRUN2 := Lib.hid hrun2; have HRAT := Lib.hid hrat
        clear hrun1 hrun2 hrat hO12 hO13 hg12 hg13 hl12 hl13 hB12 hB13 hsrc2 hW1
        go_wp2_with fail
        go_region_held3 (TurnSt2 w (some ⟨b, o, none⟩) k A L C ls a7 ll la) (first | assumption | exact TurnSt2.below (by assumption) (Below.refl _ _).drew | exact TurnSt2.below (by assumption) ((Below.refl _ _).alloc (Nat.le_refl _) _))
          (first
            | (refine step_append_run rfl (.tmp 83) (.tmp 86) 22 22 rfl (.slice (some ⟨W.heap.size, 0, none⟩) 0 0) (.slice (some ⟨b, o, none⟩) r c0) (by rfl) (by rfl) _ _ HRUN1.out ?_)
            | (refine step_append_run rfl (.tmp 87) (.tmp 91) 22 22 rfl (.slice a12 r c12) (.slice aR mR cR) (by rfl) (by rfl) _ _ HRUN2.out ?_))
        obtain ⟨b', o', hro⟩ := hst13.1.row
        obtain ⟨e, _, hcell⟩ := hro r hr1
        cases e
        obtain ⟨hrow, hlr⟩ := hst13.1.each r hr1
        have hlo : (Str.all [] (ls.take r ++ ls.drop (r + 1))).length ≤ 500 := Str.all_len _ [] 500 (by simp) (fun l hl => by
          rcases List.mem_append.1 hl with h | h
          · exact hst13.1.short l (List.mem_of_mem_take h)
          · exact hst13.1.short l (List.mem_of_mem_drop h))
        have hls := hlost.out r hr1
        rw [hrow.len] at hls
        have hS : TurnSt3 w a7 ll la a13 (r + mR) (ls.take r ++ ls.drop (r + 1)) (A r) (L r) (ls.getD r []) w13 ∧ w13.cell? ⟨b, o + r, none⟩ = some (.slice (A r) (L r) (C r)) := ⟨⟨hst13.2.1, HRAT.out, hrow, hst13.2.2⟩, hcell⟩
        have hmr : r + mR ≤ 30 := by have := HMR.out; omega
        clear hst hst1 hst12 hst13 HRUN1 HRUN2 hsl HAR HMR HCR hro hrow hcell HRAT hlost hrev HOK HC
        generalize ls.take r ++ ls.drop (r + 1) = lso at hlo hls hS
        generalize ls.getD r [] = row at hls hS
        generalize A r = ar at hS
        generalize L r = lr at hS hls hlr
        generalize C r = cr at hS
        have AO : Hid (∀ W, (TurnSt3 w a7 ll la a13 (r + mR) lso ar lr row W ∧ W.cell? ⟨b, o + r, none⟩ = some (.slice ar lr cr)) → Calls Try.prog 7 #[.slice a13 (r + mR) c13] W (NewB (Str.all [] lso).length (Str.all [] lso) W)) := Lib.hid fun W h => all_any a13 (r + mR) c13 lso W h.1.2.1 (by omega)
        generalize Str.all [] lso = lO at AO hlo hls
        generalize lO.length = lo at AO hlo
        obtain ⟨px, hpx1, hpx2⟩ : ∃ px, max ll lo = px ∧ px ≤ 500 := ⟨max ll lo, rfl, by omega⟩
        have XO : Hid (∀ W a c, (TurnSt3 w a7 ll la a13 (r + mR) lso ar lr row W ∧ W.cell? ⟨b, o + r, none⟩ = some (.slice ar lr cr)) → BAt W a lo lO → Calls Try.prog 9 #[.slice a7 ll c7, .slice a lo c] W (NewB px (Str.xor la lO) W)) := Lib.hid fun W a c h h' => xorp_any a7 a ll lo c7 c px la lO W h.1.1 h' (by omega) (by omega) hpx1
        have FI : Hid (∀ W a c, BAt W a px (Str.xor la lO) → Calls Try.prog 12 #[.slice a px c, .int .i64 lr] W (NewB lr row W)) := Lib.hid fun W a c h => by
          have := fit_any a px c _ (lr : Int) W h (by omega) (by omega)
          rwa [clamp_nat lr (by omega), hls] at this
        clear hpx1 hls
        have j1 : (0 : Int) ≤ (r : Int) := by omega
        have j2 : (r : Int) < (k : Int) := by omega
        go_wp2_with fail
        go_region_held3 (fun W => TurnSt3 w a7 ll la a13 (r + mR) lso ar lr row W ∧ W.cell? ⟨b, o + r, none⟩ = some (.slice ar lr cr)) (first | assumption | exact ts3_below (by assumption) (Below.refl _ _).drew | exact ts3_below (by assumption) hB)
          (first
            | (go_at_call 7; (with_reducible refine (AO.out _ (by assumption)).mono ?_); rintro e w14 ⟨a14, c14, rfl, hO14, hB⟩)
            | (go_at_call 9; (with_reducible refine (XO.out w14 a14 c14 (by assumption) hO14.bat).mono ?_); rintro e w15 ⟨a15, c15, rfl, hO15, hB⟩)
            | (go_at_call 12; (with_reducible refine (FI.out w15 a15 c15 hO15.bat).mono ?_); rintro e w16 ⟨a16, c16, rfl, hO16, hB⟩
               have hT16 := ts3_below (show TurnSt3 w a7 ll la a13 (r + mR) lso ar lr row w15 ∧ w15.cell? ⟨b, o + r, none⟩ = some (.slice ar lr cr) by assumption) hB))
        have HO16 := Lib.hid hO16; have HT := Lib.hid hT16
        have hcl := hT16.2
        clear hO14 hO15 hO16 hT16 AO XO FI hS
        go_wp2_with fail
        refine (same_any a16 ar lr lr c16 cr row row w16 HO16.out.bat HT.out.1.2.2.1).mono ?_
        rw [decide_eq_true rfl]
        rintro e w17 ⟨rfl, j17, rfl⟩
        go_wp2
        go_ret
        exact ⟨rfl, HT.out.1.2.2.2.trans (below_drewN w16 _ j17)⟩
theorem walk_StripeTurns (a0 : Option Addr) (len0 cap0 : Nat) (A0 : Nat → Option Addr) (L0 C0 : Nat → Nat) (Z0 : Nat → List Int) (a1 : Option Addr) (len1 cap1 : Nat) (z1 : List Int) (a2 : Int) (w : World) (w0 : RowsIn .u8 w a0 len0 cap0 A0 L0 C0 Z0) (w1 : IntRow .u8 w a1 len1 cap1 z1) :
    Calls Try.prog 3 #[.slice a0 len0 cap0, .slice a1 len1 cap1, .int .i64 a2] w (TrueBelow w) := by
  obtain ⟨hl, hm, _⟩ := w0.row
  obtain ⟨b1, l1⟩ := w1.bat
  unfold maxLen at hm
  by_cases h : smallB len0 L0 = false ∨ 500 < len1
  · exact turns_out a0 len0 cap0 A0 L0 C0 a1 len1 cap1 a2 w w0.vat (by omega) h
  · have hs : smallB len0 L0 = true := by cases e : smallB len0 L0 <;> simp_all
    have hd := of_decide_eq_true hs
    exact turns_in a0 len0 cap0 A0 L0 C0 _ a1 len1 cap1 _ a2 w (w0.rin hd.1) b1 hd.2 (by omega) hl
end Go.Proofs.Ythfiahdeggmmcab

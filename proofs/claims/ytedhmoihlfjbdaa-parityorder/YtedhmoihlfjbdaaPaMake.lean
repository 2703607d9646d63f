
/-
  parity.Make.
-/
import Derived.Test.YtedhmoihlfjbdaaPaIter
namespace Go.Proofs.Ytedhmoihlfjbdaa
open Go.RowKit Go.Shelf
set_option linter.unusedVariables false
theorem Pa.all_up : ∀ (ls : List (List Int)) (s : List Int), s.length ≤ (Str.all s ls).length
  | [], s => Nat.le_refl _
  | l :: ls, s => by
    have h := Pa.all_up ls (Str.xor s l)
    rw [Str.xor_len] at h
    show s.length ≤ (Str.all (Str.xor s l) ls).length
    omega
theorem Pa.all_le (N : Nat) : ∀ (ls : List (List Int)) (s : List Int), s.length ≤ N → (∀ l ∈ ls, l.length ≤ N) → (Str.all s ls).length ≤ N
  | [], s, h, _ => h
  | l :: ls, s, h, hl => by
    refine Pa.all_le N ls (Str.xor s l) ?_ (fun m hm => hl m (List.mem_cons_of_mem _ hm))
    rw [Str.xor_len]
    have := hl l (List.mem_cons_self ..)
    omega
theorem Pa.all_ge (N : Nat) : ∀ (ls : List (List Int)) (s : List Int), (∀ l ∈ ls, l.length = N) → ls ≠ [] → N ≤ (Str.all s ls).length
  | [], _, _, h => absurd rfl h
  | l :: ls, s, hl, _ => by
    have h := Pa.all_up ls (Str.xor s l)
    rw [Str.xor_len, hl l (List.mem_cons_self ..)] at h
    show N ≤ (Str.all (Str.xor s l) ls).length
    omega
theorem ihd_len (l : List Int) : (ihd l).length = 8 := rfl
theorem Pa.head_len {ls : List (List Int)} (h : ls ≠ []) : (Pa.head ls).length = 8 := by
  have h1 := Pa.all_le 8 (ls.map ihd) [] (by simp) (fun l hl => by obtain ⟨x, _, rfl⟩ := List.mem_map.1 hl; exact Nat.le_of_eq (ihd_len x))
  have h2 := Pa.all_ge 8 (ls.map ihd) [] (fun l hl => by obtain ⟨x, _, rfl⟩ := List.mem_map.1 hl; exact ihd_len x) (by simpa using h)
  unfold Pa.head; omega
theorem ihd_ok {l : List Int} (hok : Str.Ok l) (h2 : l.length ≤ 1500) (j : Nat) : 0 ≤ (ihd l).getD j 0 ∧ (ihd l).getD j 0 < 256 := by
  have q0 := hok 0; have q1 := hok 1; have q4 := hok 4; have q5 := hok 5; have q6 := hok 6; have q7 := hok 7
  unfold ihd
  rcases j with _ | _ | _ | _ | _ | _ | _ | _ | j
  all_goals simp only [List.getD_cons_zero, List.getD_cons_succ]
  all_goals first | omega | (simp)
theorem getD_map' {f : List Int → List Int} (ls : List (List Int)) {k : Nat} (hk : k < ls.length) : (ls.map f).getD k [] = f (ls.getD k []) := by
  rw [List.getD_eq_getElem?_getD, List.getD_eq_getElem?_getD, List.getElem?_map, List.getElem?_eq_getElem hk]; rfl
/-- The imprints' folding. -/
theorem pfold_any (B : Nat) (a : Option Addr) (len c : Nat) (ls : List (List Int)) (w : World) (hB : w.cell? ⟨B, 0, none⟩ = some (.slice a len c)) (hBl : B < w.heap.size) (h : PksAt w a len ls) (hlen : len ≤ 1000000000) (hne : 0 < len) (hgood : ∀ k, k < len → pcodeF (ls.getD k []).length (ls.getD k []) = 0) :
    Calls Try.prog 57 #[.func (.func 93) #[] #[.pointer (some ⟨B, 0, none⟩)]] w (IFoldOut (ls.map ihd) (ls.map (List.drop 12)) w) := by
  have hcount := h.count
  have hent : Enters Try.prog 93 := enters_of Try.func93 (by kernel_rfl) rfl
  refine ifold_any w _ _ (pitR ls) (ls.map ihd) (ls.map (List.drop 12)) 0 (pitPre B a len c ls) (by simp) ?_ hent (fun w => by kernel_rfl) ?_ ?_ ?_ ?_ (by simp; omega) ?_ ?_
  · rw [List.length_map, hcount]; exact pit_rel 3 (by omega) B a len c ls (by omega) hgood
  · rintro k v Wp W hk h1 h2 h3 ⟨a', c', rfl, hO⟩
    rw [List.length_map] at hk
    have hg := pcodeF_long (hgood k (by omega))
    obtain ⟨_, _, _, pn, _, _, _, _, hba, _⟩ := h.get (k := k) (by omega)
    refine ⟨fun j => (ihd (ls.getD k [])).getD j 0, a', (ls.getD k []).length - 12, c', rfl, ?_, fun j => ihd_ok hba.ok hg.2 j, by omega, ?_, fun x h0 hx => .inr (hO.blk x hx).1⟩
    · rw [getD_map' ls hk]; rfl
    · rw [getD_map' ls hk]; exact hO.bat
  · rintro x Wp lo hi hlo hhi s A C row ⟨a', c', rfl, hO⟩ hg hr
    refine ⟨a', c', rfl, ?_⟩
    exact ⟨hO.row.kept hg (by
      cases h : a' with
      | none => exact .inl rfl
      | some x => exact .inr (fun e => by
          have h2 := (hO.blk x h).1
          have h3 := hr x.block e.symm
          omega)), hO.ok⟩
  · rintro k x Wp W ⟨a', c', rfl, _⟩
    exact ⟨fun j => (ihd (ls.getD k [])).getD j 0, _, _, _, rfl⟩
  · intro W hW
    exact ⟨(hW.cell (p := ⟨B, 0, none⟩) hBl).trans hB, h.below hW⟩
  · refine Nat.le_trans (Pa.all_le 1500 _ [] (by simp) fun l hl => ?_) (by omega)
    obtain ⟨x, hx, rfl⟩ := List.mem_map.1 hl
    obtain ⟨k, hk, rfl⟩ := List.getElem_of_mem hx
    have hg := pcodeF_long (hgood k (by omega))
    rw [List.getD_eq_getElem?_getD, List.getElem?_eq_getElem hk] at hg
    simp at hg ⊢; omega
  · exact .inl (Pa.head_len (by intro e; rw [e] at hcount; simp at hcount; omega))
theorem u16s_of_own {W : World} {base : Nat} {a : Option Addr} {n c : Nat} {zs : List Int} (h : W.ownsRow base 29 1 (.slice a n c) n (zs.map (.int .u16))) : U16s a n zs W := fun j hj => by
  have hl := h.1
  obtain ⟨g, e, _, h2, h3⟩ := own_cell h (i := j) (x := .int .u16 (zs.getD j 0)) (by
    rw [List.getElem?_map, List.getD_eq_getElem?_getD]
    have : j < zs.length := by simpa using (by omega : j < (zs.map (Value.int .u16)).length)
    rw [List.getElem?_eq_getElem this]; rfl)
  exact ⟨g, 0, e, h2, by rw [Nat.zero_add]; exact h3⟩
theorem iter_any (a : Option Addr) (n c : Nat) (w : World) :
    Calls Try.prog 58 #[.slice a n c] w fun e w' => e = .returned (.func (.func 93) #[] #[.pointer (some ⟨w.heap.size, 0, none⟩)]) ∧ w' = w.alloc (.cells #[.slice a n c] 22) := by
  go_enter Try.func58, Try.ntmps58
  go_wp2
  go_ret
  exact ⟨rfl, rfl⟩
theorem PaOut.no {ls : List (List Int)} {cd : Int} (hc : Pa.code ls = cd) (h : cd ≠ 0) {w W : World} (hb : Below w.heap.size w W) : PaOut ls w (.returned (.tuple #[rpc (fun _ => 0) 0 0 none 0 0, .int .i64 cd])) W := by
  subst hc; exact ⟨fun _ => ⟨rfl, hb⟩, fun h' => absurd h' h⟩
theorem h04s {n : Nat} {w W : World} (h : Below n w W) : w.heap.size ≤ W.heap.size := h.size
set_option maxHeartbeats 1000000 in
set_option maxRecDepth 100000 in
theorem make_any (a : Option Addr) (len c : Nat) (ls : List (List Int)) (w : World) (h : PksAt w a len ls) (hlen : len ≤ 1000000000) :
    Calls Try.prog 15 #[.slice a len c] w (PaOut ls w) := by
  have hcount := h.count
  have HP := Lib.hid h
  have HNU := Lib.hid fun W (hW : Below w.heap.size w W) => nums_any a len c ls W (h.below hW) hlen
  clear h
  have hb0 : Below w.heap.size w (w.alloc (.cells #[.int .u8 0, .int .u8 0, .int .u8 0, .int .u8 0, .int .u8 0, .int .u8 0, .int .u8 0, .int .u8 0, .int .u16 0, .int .u64 0, .int .u64 0, .slice none 0 0] 32)) := (Below.refl _ w).alloc (Nat.le_refl _) _
  have HB0 := Lib.hid hb0; clear hb0
  have hcd : Pa.code ls = if ls.length = 0 then 4 else if 48 < ls.length then 3 else if Pa.ncode ls ≠ 0 then Pa.ncode ls else Cv.code (Pa.base ls) (Pa.seqs ls ls.length) ls.length := rfl
  rw [hcount] at hcd
  go_enter Try.func15, Try.ntmps15
  by_cases h0 : len = 0
  · subst h0
    rw [if_pos rfl] at hcd
    have HCD := Lib.hid hcd; clear hcd
    go_wp2_with fail
    exact bodyPost_ret (v := .tuple #[rpc (fun _ => 0) 0 0 none 0 0, .int .i64 4]) (by simp [results, Try.results15, go_sem, rpc, Mk.H, Mk.L]) rfl (PaOut.no HCD.out (by decide) HB0.out)
  rw [if_neg h0] at hcd
  have hnz : ((len : Int) == 0) = false := beq_eq_false_iff_ne.2 (by omega)
  by_cases h48 : 48 < len
  · rw [if_pos h48] at hcd
    have hz48 : (48 : Int) < (len : Int) := by omega
    have HCD := Lib.hid hcd; clear hcd
    go_wp2_with fail
    exact bodyPost_ret (v := .tuple #[rpc (fun _ => 0) 0 0 none 0 0, .int .i64 3]) (by simp [results, Try.results15, go_sem, rpc, Mk.H, Mk.L]) rfl (PaOut.no HCD.out (by decide) HB0.out)
  rw [if_neg h48] at hcd
  have hz48 : ¬ (48 : Int) < (len : Int) := by omega
  have HCD := Lib.hid hcd; clear hcd
  go_wp2_with fail
  refine (HNU.out _ HB0.out).mono ?_
  rintro e w1 ⟨h1, h2⟩
  by_cases hn : Pa.ncode ls = 0
  case neg =>
    obtain ⟨rfl, hB1⟩ := h1 hn
    have hcd := HCD.out
    rw [if_pos hn] at hcd
    have HCD' := Lib.hid hcd
    have HN0 := Lib.hid hn
    have hnb : (Pa.ncode ls == 0) = false := beq_eq_false_iff_ne.2 hn
    have hr1 : w1.heap[w.heap.size]? = some (.cells #[.int .u8 0, .int .u8 0, .int .u8 0, .int .u8 0, .int .u8 0, .int .u8 0, .int .u8 0, .int .u8 0, .int .u16 0, .int .u64 0, .int .u64 0, .slice none 0 0] 32 (0, 0)) := (hB1.block _ (by simp)).trans (heap_alloc_new w _)
    have hb1 := HB0.out.trans (hB1.mono HB0.out.size)
    have HR1 := Lib.hid hr1; have HB1 := Lib.hid hb1
    clear h1 h2 hcd HCD HNU hB1 hn hr1 hb1
    generalize Pa.ncode ls = g at *
    have z0 : w1.cell? ⟨w.heap.size, 0, none⟩ = some (.int .u8 0) := by rw [cell_of_row w1 _ 0 _ _ _ HR1.out]; rfl
    have z1 : w1.cell? ⟨w.heap.size, 1, none⟩ = some (.int .u8 0) := by rw [cell_of_row w1 _ 1 _ _ _ HR1.out]; rfl
    have z2 : w1.cell? ⟨w.heap.size, 2, none⟩ = some (.int .u8 0) := by rw [cell_of_row w1 _ 2 _ _ _ HR1.out]; rfl
    have z3 : w1.cell? ⟨w.heap.size, 3, none⟩ = some (.int .u8 0) := by rw [cell_of_row w1 _ 3 _ _ _ HR1.out]; rfl
    have z4 : w1.cell? ⟨w.heap.size, 4, none⟩ = some (.int .u8 0) := by rw [cell_of_row w1 _ 4 _ _ _ HR1.out]; rfl
    have z5 : w1.cell? ⟨w.heap.size, 5, none⟩ = some (.int .u8 0) := by rw [cell_of_row w1 _ 5 _ _ _ HR1.out]; rfl
    have z6 : w1.cell? ⟨w.heap.size, 6, none⟩ = some (.int .u8 0) := by rw [cell_of_row w1 _ 6 _ _ _ HR1.out]; rfl
    have z7 : w1.cell? ⟨w.heap.size, 7, none⟩ = some (.int .u8 0) := by rw [cell_of_row w1 _ 7 _ _ _ HR1.out]; rfl
    have z8 : w1.cell? ⟨w.heap.size, 8, none⟩ = some (.int .u16 0) := by rw [cell_of_row w1 _ 8 _ _ _ HR1.out]; rfl
    have z9 : w1.cell? ⟨w.heap.size, 9, none⟩ = some (.int .u64 0) := by rw [cell_of_row w1 _ 9 _ _ _ HR1.out]; rfl
    have z10 : w1.cell? ⟨w.heap.size, 10, none⟩ = some (.int .u64 0) := by rw [cell_of_row w1 _ 10 _ _ _ HR1.out]; rfl
    have z11 : w1.cell? ⟨w.heap.size, 11, none⟩ = some (.slice none 0 0) := by rw [cell_of_row w1 _ 11 _ _ _ HR1.out]; rfl
    have fz : ∀ o, w1.frozen? ⟨w.heap.size, o, none⟩ = false := fun o => frozen_of_row w1 _ o _ _ HR1.out
    go_wp2_with fail
    obtain ⟨w5, hw5⟩ : ∃ u, putL w1 w.heap.size 0 [.int .u8 0, .int .u8 0, .int .u8 0, .int .u8 0, .int .u8 0, .int .u8 0, .int .u8 0, .int .u8 0, .int .u16 0, .int .u64 0, .int .u64 0, .slice none 0 0] = u := ⟨_, rfl⟩
    have P5 : Put w1 w5 w.heap.size #[.int .u8 0, .int .u8 0, .int .u8 0, .int .u8 0, .int .u8 0, .int .u8 0, .int .u8 0, .int .u8 0, .int .u16 0, .int .u64 0, .int .u64 0, .slice none 0 0] 32 := by rw [← hw5]; exact putL_is (us := [.int .u8 0, .int .u8 0, .int .u8 0, .int .u8 0, .int .u8 0, .int .u8 0, .int .u8 0, .int .u8 0, .int .u16 0, .int .u64 0, .int .u64 0, .slice none 0 0]) HR1.out rfl
    simp only [putL, Nat.zero_add, Nat.reduceAdd] at hw5
    rw [hw5]
    have hb5 := HB1.out.grown P5.grown HB1.out.size (fun k e => by cases e; exact Nat.le_refl _)
    have hr5 := P5.row
    clear hw5 P5
    have HB5 := Lib.hid hb5; clear hb5
    have HR5 := Lib.hid hr5; clear hr5
    clear z0 z1 z2 z3 z4 z5 z6 z7 z8 z9 z10 z11 fz
    have y0 : w5.cell? ⟨w.heap.size, 0, none⟩ = some (.int .u8 0) := by rw [cell_of_row w5 _ 0 _ _ _ HR5.out]; rfl
    have y1 : w5.cell? ⟨w.heap.size, 1, none⟩ = some (.int .u8 0) := by rw [cell_of_row w5 _ 1 _ _ _ HR5.out]; rfl
    have y2 : w5.cell? ⟨w.heap.size, 2, none⟩ = some (.int .u8 0) := by rw [cell_of_row w5 _ 2 _ _ _ HR5.out]; rfl
    have y3 : w5.cell? ⟨w.heap.size, 3, none⟩ = some (.int .u8 0) := by rw [cell_of_row w5 _ 3 _ _ _ HR5.out]; rfl
    have y4 : w5.cell? ⟨w.heap.size, 4, none⟩ = some (.int .u8 0) := by rw [cell_of_row w5 _ 4 _ _ _ HR5.out]; rfl
    have y5 : w5.cell? ⟨w.heap.size, 5, none⟩ = some (.int .u8 0) := by rw [cell_of_row w5 _ 5 _ _ _ HR5.out]; rfl
    have y6 : w5.cell? ⟨w.heap.size, 6, none⟩ = some (.int .u8 0) := by rw [cell_of_row w5 _ 6 _ _ _ HR5.out]; rfl
    have y7 : w5.cell? ⟨w.heap.size, 7, none⟩ = some (.int .u8 0) := by rw [cell_of_row w5 _ 7 _ _ _ HR5.out]; rfl
    have y8 : w5.cell? ⟨w.heap.size, 8, none⟩ = some (.int .u16 0) := by rw [cell_of_row w5 _ 8 _ _ _ HR5.out]; rfl
    have y9 : w5.cell? ⟨w.heap.size, 9, none⟩ = some (.int .u64 0) := by rw [cell_of_row w5 _ 9 _ _ _ HR5.out]; rfl
    have y10 : w5.cell? ⟨w.heap.size, 10, none⟩ = some (.int .u64 0) := by rw [cell_of_row w5 _ 10 _ _ _ HR5.out]; rfl
    have y11 : w5.cell? ⟨w.heap.size, 11, none⟩ = some (.slice none 0 0) := by rw [cell_of_row w5 _ 11 _ _ _ HR5.out]; rfl
    exact bodyPost_ret (v := .tuple #[rpc (fun _ => 0) 0 0 none 0 0, .int .i64 g]) (by simp [results, Try.results15, go_sem, rpc, Mk.H, Mk.L, y0, y1, y2, y3, y4, y5, y6, y7, y8, y9, y10, y11]) rfl (PaOut.no HCD'.out HN0.out HB5.out)
  obtain ⟨a1, c1, rfl, ho1, hB1⟩ := h2 hn
  have hcd := HCD.out
  rw [if_neg (by simpa using hn)] at hcd
  rw [hcount] at ho1
  have hr1 : w1.heap[w.heap.size]? = some (.cells #[.int .u8 0, .int .u8 0, .int .u8 0, .int .u8 0, .int .u8 0, .int .u8 0, .int .u8 0, .int .u8 0, .int .u16 0, .int .u64 0, .int .u64 0, .slice none 0 0] 32 (0, 0)) := (hB1.block _ (by simp)).trans (heap_alloc_new w _)
  have hb1 := HB0.out.trans (hB1.mono HB0.out.size)
  have hu := u16s_of_own ho1
  have HOF := Lib.hid fun W (hW : Below w1.heap.size w1 W) => cof_any a1 len c1 _ W (hu.below hW) (by omega)
  have HR1 := Lib.hid hr1; have HB1 := Lib.hid hb1
  have HCD' := Lib.hid hcd
  clear h1 h2 hcd HCD HNU hB1 hr1 hb1 hu ho1
  have HNN := Lib.hid hn; clear hn
  go_wp2_with fail
  refine (HOF.out _ (Below.refl _ _)).mono ?_
  rintro e w2 ⟨rfl, hB2⟩
  have hxx : Pa.X ls = Cv.m (Pa.base ls) (Pa.seqs ls ls.length) ls.length := rfl
  have hbb : Pa.base ls = Cv.base (Pa.seqs ls ls.length) ls.length := rfl
  rw [hcount] at hxx hbb
  have hcd' := HCD'.out
  rw [hbb] at hcd' hxx
  have hoo : Cv.ofBase (Pa.seqs ls len) len = if Cv.code (Cv.base (Pa.seqs ls len) len) (Pa.seqs ls len) len = 0 then Cv.base (Pa.seqs ls len) len else 0 := rfl
  have haa : Cv.ans (Cv.base (Pa.seqs ls len) len) (Pa.seqs ls len) len = if Cv.code (Cv.base (Pa.seqs ls len) len) (Pa.seqs ls len) len = 0 then Cv.m (Cv.base (Pa.seqs ls len) len) (Pa.seqs ls len) len else 0 := rfl
  have hr2 : w2.heap[w.heap.size]? = some (.cells #[.int .u8 0, .int .u8 0, .int .u8 0, .int .u8 0, .int .u8 0, .int .u8 0, .int .u8 0, .int .u8 0, .int .u16 0, .int .u64 0, .int .u64 0, .slice none 0 0] 32 (0, 0)) := (hB2.block _ (Array.getElem?_eq_some_iff.1 HR1.out).1).trans HR1.out
  have hb2 := HB1.out.trans (hB2.mono HB1.out.size)
  by_cases hc : Cv.code (Cv.base (Pa.seqs ls len) len) (Pa.seqs ls len) len = 0
  case neg =>
    rw [if_neg hc] at hoo haa
    have HN0 := Lib.hid hc
    clear HCD' HOF hxx hbb hB2 HR1 HB1
    have HCD' := Lib.hid hcd'; clear hcd'
    have hnb : (Cv.code (Cv.base (Pa.seqs ls len) len) (Pa.seqs ls len) len == 0) = false := beq_eq_false_iff_ne.2 hc
    rw [hoo, haa]
    clear hc hoo haa
    generalize Cv.code (Cv.base (Pa.seqs ls len) len) (Pa.seqs ls len) len = g at *
    obtain ⟨w3, hw3⟩ : ∃ u, w2.alloc (.cells #[.int .u64 (Mk.H 0), .int .u64 (Mk.L 0)] 107) = u := ⟨_, rfl⟩
    have hB3 : Below w2.heap.size w2 w3 := by rw [← hw3]; exact (Below.refl _ w2).alloc (Nat.le_refl _) _
    have hr3 := (hB3.block _ (Array.getElem?_eq_some_iff.1 hr2).1).trans hr2
    have hb3 := hb2.trans (hB3.mono hb2.size)
    have HR3 := Lib.hid hr3; have HB3 := Lib.hid hb3
    have HW3 := Lib.hid hw3
    clear hr2 hb2 hr3 hb3 hw3 hB3
    have z0 : w3.cell? ⟨w.heap.size, 0, none⟩ = some (.int .u8 0) := by rw [cell_of_row w3 _ 0 _ _ _ HR3.out]; rfl
    have z1 : w3.cell? ⟨w.heap.size, 1, none⟩ = some (.int .u8 0) := by rw [cell_of_row w3 _ 1 _ _ _ HR3.out]; rfl
    have z2 : w3.cell? ⟨w.heap.size, 2, none⟩ = some (.int .u8 0) := by rw [cell_of_row w3 _ 2 _ _ _ HR3.out]; rfl
    have z3 : w3.cell? ⟨w.heap.size, 3, none⟩ = some (.int .u8 0) := by rw [cell_of_row w3 _ 3 _ _ _ HR3.out]; rfl
    have z4 : w3.cell? ⟨w.heap.size, 4, none⟩ = some (.int .u8 0) := by rw [cell_of_row w3 _ 4 _ _ _ HR3.out]; rfl
    have z5 : w3.cell? ⟨w.heap.size, 5, none⟩ = some (.int .u8 0) := by rw [cell_of_row w3 _ 5 _ _ _ HR3.out]; rfl
    have z6 : w3.cell? ⟨w.heap.size, 6, none⟩ = some (.int .u8 0) := by rw [cell_of_row w3 _ 6 _ _ _ HR3.out]; rfl
    have z7 : w3.cell? ⟨w.heap.size, 7, none⟩ = some (.int .u8 0) := by rw [cell_of_row w3 _ 7 _ _ _ HR3.out]; rfl
    have z8 : w3.cell? ⟨w.heap.size, 8, none⟩ = some (.int .u16 0) := by rw [cell_of_row w3 _ 8 _ _ _ HR3.out]; rfl
    have z9 : w3.cell? ⟨w.heap.size, 9, none⟩ = some (.int .u64 0) := by rw [cell_of_row w3 _ 9 _ _ _ HR3.out]; rfl
    have z10 : w3.cell? ⟨w.heap.size, 10, none⟩ = some (.int .u64 0) := by rw [cell_of_row w3 _ 10 _ _ _ HR3.out]; rfl
    have z11 : w3.cell? ⟨w.heap.size, 11, none⟩ = some (.slice none 0 0) := by rw [cell_of_row w3 _ 11 _ _ _ HR3.out]; rfl
    have fz : ∀ o, w3.frozen? ⟨w.heap.size, o, none⟩ = false := fun o => frozen_of_row w3 _ o _ _ HR3.out
    rw [← HW3.out] at z0 z1 z2 z3 z4 z5 z6 z7 z8 z9 z10 z11 fz
    go_wp2_with fail
    rw [HW3.out] at z0 z1 z2 z3 z4 z5 z6 z7 z8 z9 z10 z11 fz
    rw [HW3.out]
    obtain ⟨w5, hw5⟩ : ∃ u, putL w3 w.heap.size 0 [.int .u8 0, .int .u8 0, .int .u8 0, .int .u8 0, .int .u8 0, .int .u8 0, .int .u8 0, .int .u8 0, .int .u16 0, .int .u64 0, .int .u64 0, .slice none 0 0] = u := ⟨_, rfl⟩
    have P5 : Put w3 w5 w.heap.size #[.int .u8 0, .int .u8 0, .int .u8 0, .int .u8 0, .int .u8 0, .int .u8 0, .int .u8 0, .int .u8 0, .int .u16 0, .int .u64 0, .int .u64 0, .slice none 0 0] 32 := by rw [← hw5]; exact putL_is (us := [.int .u8 0, .int .u8 0, .int .u8 0, .int .u8 0, .int .u8 0, .int .u8 0, .int .u8 0, .int .u8 0, .int .u16 0, .int .u64 0, .int .u64 0, .slice none 0 0]) HR3.out rfl
    simp only [putL, Nat.zero_add, Nat.reduceAdd] at hw5
    rw [hw5]
    have hb5 := HB3.out.grown P5.grown HB3.out.size (fun k e => by cases e; exact Nat.le_refl _)
    have hr5 := P5.row
    clear hw5 P5
    have HB5 := Lib.hid hb5; clear hb5
    have HR5 := Lib.hid hr5; clear hr5
    clear z0 z1 z2 z3 z4 z5 z6 z7 z8 z9 z10 z11 fz
    have y0 : w5.cell? ⟨w.heap.size, 0, none⟩ = some (.int .u8 0) := by rw [cell_of_row w5 _ 0 _ _ _ HR5.out]; rfl
    have y1 : w5.cell? ⟨w.heap.size, 1, none⟩ = some (.int .u8 0) := by rw [cell_of_row w5 _ 1 _ _ _ HR5.out]; rfl
    have y2 : w5.cell? ⟨w.heap.size, 2, none⟩ = some (.int .u8 0) := by rw [cell_of_row w5 _ 2 _ _ _ HR5.out]; rfl
    have y3 : w5.cell? ⟨w.heap.size, 3, none⟩ = some (.int .u8 0) := by rw [cell_of_row w5 _ 3 _ _ _ HR5.out]; rfl
    have y4 : w5.cell? ⟨w.heap.size, 4, none⟩ = some (.int .u8 0) := by rw [cell_of_row w5 _ 4 _ _ _ HR5.out]; rfl
    have y5 : w5.cell? ⟨w.heap.size, 5, none⟩ = some (.int .u8 0) := by rw [cell_of_row w5 _ 5 _ _ _ HR5.out]; rfl
    have y6 : w5.cell? ⟨w.heap.size, 6, none⟩ = some (.int .u8 0) := by rw [cell_of_row w5 _ 6 _ _ _ HR5.out]; rfl
    have y7 : w5.cell? ⟨w.heap.size, 7, none⟩ = some (.int .u8 0) := by rw [cell_of_row w5 _ 7 _ _ _ HR5.out]; rfl
    have y8 : w5.cell? ⟨w.heap.size, 8, none⟩ = some (.int .u16 0) := by rw [cell_of_row w5 _ 8 _ _ _ HR5.out]; rfl
    have y9 : w5.cell? ⟨w.heap.size, 9, none⟩ = some (.int .u64 0) := by rw [cell_of_row w5 _ 9 _ _ _ HR5.out]; rfl
    have y10 : w5.cell? ⟨w.heap.size, 10, none⟩ = some (.int .u64 0) := by rw [cell_of_row w5 _ 10 _ _ _ HR5.out]; rfl
    have y11 : w5.cell? ⟨w.heap.size, 11, none⟩ = some (.slice none 0 0) := by rw [cell_of_row w5 _ 11 _ _ _ HR5.out]; rfl
    exact bodyPost_ret (v := .tuple #[rpc (fun _ => 0) 0 0 none 0 0, .int .i64 g]) (by simp [results, Try.results15, go_sem, rpc, Mk.H, Mk.L, y0, y1, y2, y3, y4, y5, y6, y7, y8, y9, y10, y11]) rfl (PaOut.no HCD'.out HN0.out HB5.out)
  rw [if_pos hc] at hoo haa
  rw [hoo, haa, hc, ← hxx, ← hbb]
  rw [hc] at hcd'
  have HCD2 := Lib.hid hcd'
  have HR2 := Lib.hid hr2; have HB2 := Lib.hid hb2
  clear HCD' HOF hoo haa hxx hbb hcd' hc hr2 hb2 hB2 HR1 HB1
  go_wp2_with fail
  refine (iter_any a len c _).mono ?_
  rintro e w' ⟨rfl, rfl⟩
  obtain ⟨w4, hw4⟩ : ∃ u, (w2.alloc (.cells #[.int .u64 (Mk.H (Pa.X ls)), .int .u64 (Mk.L (Pa.X ls))] 107)).alloc (.cells #[.slice a len c] 22) = u := ⟨_, rfl⟩
  have hz4 : w4.heap.size = w2.heap.size + 2 := by rw [← hw4]; simp
  have h24 : Below w2.heap.size w2 w4 := by rw [← hw4]; exact ((Below.refl _ w2).alloc (Nat.le_refl _) _).alloc (by simp) _
  have hm4 : w4.heap[w2.heap.size]? = some (.cells #[.int .u64 (Mk.H (Pa.X ls)), .int .u64 (Mk.L (Pa.X ls))] 107 (0, 0)) := by rw [← hw4]; exact lit_old (by simp)
  have hp4 : w4.cell? ⟨w2.heap.size + 1, 0, none⟩ = some (.slice a len c) := by rw [← hw4]; simp [go_sem]
  have h04 := HB2.out.trans (h24.mono HB2.out.size)
  have hng : Pa.ncode ls = 0 := HNN.out
  have hgood : ∀ k, k < len → pcodeF (ls.getD k []).length (ls.getD k []) = 0 := fun k hk => by
    have he : Pa.err ls ls.length = 0 := by
      by_cases h : Pa.err ls ls.length = 0
      · exact h
      · unfold Pa.ncode at hng; rw [if_pos h] at hng; exact hng
    exact Pa.err_good (n := len) (by rwa [hcount] at he) hk
  have HF := Lib.hid (pfold_any (w2.heap.size + 1) a len c ls w4 hp4 (by omega) (HP.out.below h04) hlen (by omega) hgood)
  have hr4 := (h24.block _ (Array.getElem?_eq_some_iff.1 HR2.out).1).trans HR2.out
  have HR4 := Lib.hid hr4; have HM4 := Lib.hid hm4; have H04 := Lib.hid h04; have HW4 := Lib.hid hw4
  have hlt2 := (Array.getElem?_eq_some_iff.1 HR2.out).1
  have hz4' : w2.heap.size < w4.heap.size := by omega
  clear hw4 h24 hm4 hp4 h04 hng hgood hr4 hz4 HR2 HB2
  generalize hHH : ((Mk.H (Pa.X ls) : Nat) : Int) = HH at *
  generalize hLL : ((Mk.L (Pa.X ls) : Nat) : Int) = LL at *
  generalize hBB : Pa.base ls = BB at *
  have HFI := Lib.hid (And.intro hHH (And.intro hLL hBB))
  clear hHH hLL hBB
  go_wp2_with fail
  rw [HW4.out]
  refine HF.out.mono ?_
  rintro e w5 ⟨ab, cb, rfl, hO5, hB5⟩
  obtain ⟨q, hq⟩ : ∃ q : Nat → Int, ∀ j, (Str.all [] (ls.map ihd)).getD j 0 = q j := ⟨_, fun _ => rfl⟩
  obtain ⟨nb, hnb⟩ : ∃ x, (Str.all [] (ls.map (List.drop 12))).length = x := ⟨_, rfl⟩
  rw [hq 0, hq 1, hq 2, hq 3, hq 4, hq 5, hq 6, hq 7, hnb]
  rw [hnb] at hO5
  have hr5 := (hB5.block _ (Array.getElem?_eq_some_iff.1 HR4.out).1).trans HR4.out
  have hm5 := (hB5.block _ (Array.getElem?_eq_some_iff.1 HM4.out).1).trans HM4.out
  have h05 := H04.out.trans (hB5.mono H04.out.size)
  obtain ⟨w6, hw6⟩ : ∃ u, w5.alloc (.cells #[.int .u8 (q 0), .int .u8 (q 1), .int .u8 (q 2), .int .u8 (q 3), .int .u8 (q 4), .int .u8 (q 5), .int .u8 (q 6), .int .u8 (q 7), .slice ab nb cb] 57) = u := ⟨_, rfl⟩
  have h56 : Below w5.heap.size w5 w6 := by rw [← hw6]; exact (Below.refl _ w5).alloc (Nat.le_refl _) _
  have hx6 : w6.heap[w5.heap.size]? = some (.cells #[.int .u8 (q 0), .int .u8 (q 1), .int .u8 (q 2), .int .u8 (q 3), .int .u8 (q 4), .int .u8 (q 5), .int .u8 (q 6), .int .u8 (q 7), .slice ab nb cb] 57 (0, 0)) := by rw [← hw6]; exact lit_new rfl
  have hr6 := (h56.block _ (Array.getElem?_eq_some_iff.1 hr5).1).trans hr5
  have hm6 := (h56.block _ (Array.getElem?_eq_some_iff.1 hm5).1).trans hm5
  have h06 := h05.trans (h56.mono h05.size)
  have hO6 := (hO5.below h56).mono (base' := w.heap.size + 1) (by omega)
  have HQ := Lib.hid (And.intro hq hnb)
  have HR6 := Lib.hid hr6; have HM6 := Lib.hid hm6; have HX6 := Lib.hid hx6; have H06 := Lib.hid h06; have HO6 := Lib.hid hO6; have HW6 := Lib.hid hw6
  clear hq hnb hr5 hm5 h05 hw6 h56 hx6 hr6 hm6 h06 hO6 hO5 hB5 HF HR4 HM4 H04 HW4
  have z0 : w6.cell? ⟨w.heap.size, 0, none⟩ = some (.int .u8 0) := by rw [cell_of_row w6 _ 0 _ _ _ HR6.out]; rfl
  have z1 : w6.cell? ⟨w.heap.size, 1, none⟩ = some (.int .u8 0) := by rw [cell_of_row w6 _ 1 _ _ _ HR6.out]; rfl
  have z2 : w6.cell? ⟨w.heap.size, 2, none⟩ = some (.int .u8 0) := by rw [cell_of_row w6 _ 2 _ _ _ HR6.out]; rfl
  have z3 : w6.cell? ⟨w.heap.size, 3, none⟩ = some (.int .u8 0) := by rw [cell_of_row w6 _ 3 _ _ _ HR6.out]; rfl
  have z4 : w6.cell? ⟨w.heap.size, 4, none⟩ = some (.int .u8 0) := by rw [cell_of_row w6 _ 4 _ _ _ HR6.out]; rfl
  have z5 : w6.cell? ⟨w.heap.size, 5, none⟩ = some (.int .u8 0) := by rw [cell_of_row w6 _ 5 _ _ _ HR6.out]; rfl
  have z6 : w6.cell? ⟨w.heap.size, 6, none⟩ = some (.int .u8 0) := by rw [cell_of_row w6 _ 6 _ _ _ HR6.out]; rfl
  have z7 : w6.cell? ⟨w.heap.size, 7, none⟩ = some (.int .u8 0) := by rw [cell_of_row w6 _ 7 _ _ _ HR6.out]; rfl
  have z8 : w6.cell? ⟨w.heap.size, 8, none⟩ = some (.int .u16 0) := by rw [cell_of_row w6 _ 8 _ _ _ HR6.out]; rfl
  have z9 : w6.cell? ⟨w.heap.size, 9, none⟩ = some (.int .u64 0) := by rw [cell_of_row w6 _ 9 _ _ _ HR6.out]; rfl
  have z10 : w6.cell? ⟨w.heap.size, 10, none⟩ = some (.int .u64 0) := by rw [cell_of_row w6 _ 10 _ _ _ HR6.out]; rfl
  have z11 : w6.cell? ⟨w.heap.size, 11, none⟩ = some (.slice none 0 0) := by rw [cell_of_row w6 _ 11 _ _ _ HR6.out]; rfl
  have fz : ∀ o, w6.frozen? ⟨w.heap.size, o, none⟩ = false := fun o => frozen_of_row w6 _ o _ _ HR6.out
  have x0 : w6.cell? ⟨w5.heap.size, 0, none⟩ = some (.int .u8 (q 0)) := by rw [cell_of_row w6 _ 0 _ _ _ HX6.out]; rfl
  have x1 : w6.cell? ⟨w5.heap.size, 1, none⟩ = some (.int .u8 (q 1)) := by rw [cell_of_row w6 _ 1 _ _ _ HX6.out]; rfl
  have x2 : w6.cell? ⟨w5.heap.size, 2, none⟩ = some (.int .u8 (q 2)) := by rw [cell_of_row w6 _ 2 _ _ _ HX6.out]; rfl
  have x3 : w6.cell? ⟨w5.heap.size, 3, none⟩ = some (.int .u8 (q 3)) := by rw [cell_of_row w6 _ 3 _ _ _ HX6.out]; rfl
  have x4 : w6.cell? ⟨w5.heap.size, 4, none⟩ = some (.int .u8 (q 4)) := by rw [cell_of_row w6 _ 4 _ _ _ HX6.out]; rfl
  have x5 : w6.cell? ⟨w5.heap.size, 5, none⟩ = some (.int .u8 (q 5)) := by rw [cell_of_row w6 _ 5 _ _ _ HX6.out]; rfl
  have x6 : w6.cell? ⟨w5.heap.size, 6, none⟩ = some (.int .u8 (q 6)) := by rw [cell_of_row w6 _ 6 _ _ _ HX6.out]; rfl
  have x7 : w6.cell? ⟨w5.heap.size, 7, none⟩ = some (.int .u8 (q 7)) := by rw [cell_of_row w6 _ 7 _ _ _ HX6.out]; rfl
  have x8 : w6.cell? ⟨w5.heap.size, 8, none⟩ = some (.slice ab nb cb) := by rw [cell_of_row w6 _ 8 _ _ _ HX6.out]; rfl
  have m0 : w6.cell? ⟨w2.heap.size, 0, none⟩ = some (.int .u64 HH) := by rw [cell_of_row w6 _ 0 _ _ _ HM6.out]; rfl
  have m1 : w6.cell? ⟨w2.heap.size, 1, none⟩ = some (.int .u64 LL) := by rw [cell_of_row w6 _ 1 _ _ _ HM6.out]; rfl
  rw [← HW6.out] at z0 z1 z2 z3 z4 z5 z6 z7 z8 z9 z10 z11 fz x0 x1 x2 x3 x4 x5 x6 x7 x8 m0 m1
  go_wp2_with fail
  rw [HW6.out]
  obtain ⟨w7, hw7⟩ : ∃ u, putL w6 w.heap.size 0 [.int .u8 (q 0), .int .u8 (q 1), .int .u8 (q 2), .int .u8 (q 3), .int .u8 (q 4), .int .u8 (q 5), .int .u8 (q 6), .int .u8 (q 7), .int .u16 BB, .int .u64 HH, .int .u64 LL, .slice ab nb cb] = u := ⟨_, rfl⟩
  have P7 : Put w6 w7 w.heap.size #[.int .u8 (q 0), .int .u8 (q 1), .int .u8 (q 2), .int .u8 (q 3), .int .u8 (q 4), .int .u8 (q 5), .int .u8 (q 6), .int .u8 (q 7), .int .u16 BB, .int .u64 HH, .int .u64 LL, .slice ab nb cb] 32 := by rw [← hw7]; exact putL_is (us := [.int .u8 0, .int .u8 0, .int .u8 0, .int .u8 0, .int .u8 0, .int .u8 0, .int .u8 0, .int .u8 0, .int .u16 0, .int .u64 0, .int .u64 0, .slice none 0 0]) HR6.out rfl
  simp only [putL, Nat.zero_add, Nat.reduceAdd] at hw7
  rw [hw7]
  have h07 := H06.out.grown P7.grown H06.out.size (fun k e => by cases e; exact Nat.le_refl _)
  have hO7 : Own w7 (w.heap.size + 1) ab nb cb (Str.all [] (ls.map (List.drop 12))) := HO6.out.off P7.grown (by omega)
  have hr7 := P7.row
  have H07 := Lib.hid h07; have HO7 := Lib.hid (hO7.mono (base' := w.heap.size) (by omega)); have HR7 := Lib.hid hr7
  clear hw7 P7 h07 hO7 hr7 z0 z1 z2 z3 z4 z5 z6 z7 z8 z9 z10 z11 fz x0 x1 x2 x3 x4 x5 x6 x7 x8 m0 m1
  have y0 : w7.cell? ⟨w.heap.size, 0, none⟩ = some (.int .u8 (q 0)) := by rw [cell_of_row w7 _ 0 _ _ _ HR7.out]; rfl
  have y1 : w7.cell? ⟨w.heap.size, 1, none⟩ = some (.int .u8 (q 1)) := by rw [cell_of_row w7 _ 1 _ _ _ HR7.out]; rfl
  have y2 : w7.cell? ⟨w.heap.size, 2, none⟩ = some (.int .u8 (q 2)) := by rw [cell_of_row w7 _ 2 _ _ _ HR7.out]; rfl
  have y3 : w7.cell? ⟨w.heap.size, 3, none⟩ = some (.int .u8 (q 3)) := by rw [cell_of_row w7 _ 3 _ _ _ HR7.out]; rfl
  have y4 : w7.cell? ⟨w.heap.size, 4, none⟩ = some (.int .u8 (q 4)) := by rw [cell_of_row w7 _ 4 _ _ _ HR7.out]; rfl
  have y5 : w7.cell? ⟨w.heap.size, 5, none⟩ = some (.int .u8 (q 5)) := by rw [cell_of_row w7 _ 5 _ _ _ HR7.out]; rfl
  have y6 : w7.cell? ⟨w.heap.size, 6, none⟩ = some (.int .u8 (q 6)) := by rw [cell_of_row w7 _ 6 _ _ _ HR7.out]; rfl
  have y7 : w7.cell? ⟨w.heap.size, 7, none⟩ = some (.int .u8 (q 7)) := by rw [cell_of_row w7 _ 7 _ _ _ HR7.out]; rfl
  have y8 : w7.cell? ⟨w.heap.size, 8, none⟩ = some (.int .u16 BB) := by rw [cell_of_row w7 _ 8 _ _ _ HR7.out]; rfl
  have y9 : w7.cell? ⟨w.heap.size, 9, none⟩ = some (.int .u64 HH) := by rw [cell_of_row w7 _ 9 _ _ _ HR7.out]; rfl
  have y10 : w7.cell? ⟨w.heap.size, 10, none⟩ = some (.int .u64 LL) := by rw [cell_of_row w7 _ 10 _ _ _ HR7.out]; rfl
  have y11 : w7.cell? ⟨w.heap.size, 11, none⟩ = some (.slice ab nb cb) := by rw [cell_of_row w7 _ 11 _ _ _ HR7.out]; rfl
  refine bodyPost_ret (v := .tuple #[.agg #[.int .u8 (q 0), .int .u8 (q 1), .int .u8 (q 2), .int .u8 (q 3), .int .u8 (q 4), .int .u8 (q 5), .int .u8 (q 6), .int .u8 (q 7), .int .u16 BB, .int .u64 HH, .int .u64 LL, .slice ab nb cb], .int .i64 0]) (by simp [results, Try.results15, go_sem, y0, y1, y2, y3, y4, y5, y6, y7, y8, y9, y10, y11]) rfl ⟨fun h => absurd HCD2.out h, fun _ => ⟨ab, cb, ?_, ?_, H07.out⟩⟩
  · unfold rpc Pa.head Pa.body
    simp only [HQ.out.1, HQ.out.2, HFI.out.1, HFI.out.2.1, HFI.out.2.2]
  · have h := HO7.out
    rw [← HQ.out.2] at h
    exact h
end Go.Proofs.Ytedhmoihlfjbdaa


/-
  confluxref06.Write.
-/
import Derived.Test.YtfmabpddacfbcaaRedRW0
import Derived.Deep.RegionHeld3
namespace Go.Proofs.Ytfmabpddacfbcaa
open Go.RowKit Go.Shelf
set_option linter.unusedVariables false
set_option linter.unusedSimpArgs false
theorem rat_3 (w : World) (a b e : Option Addr) (n m k c d f : Nat) (la lb le : List Int) (ha : BAt w a n la) (hb : BAt w b m lb) (he : BAt w e k le) (hn : n ≤ 140737488355328) (hm : m ≤ 140737488355328) (hk : k ≤ 140737488355328) :
    RAt (w.alloc (.cells #[.slice a n c, .slice b m d, .slice e k f] 25)) (some ⟨w.heap.size, 0, none⟩) 3 [la, lb, le] := by
  have hbel : Below w.heap.size w (w.alloc (.cells #[.slice a n c, .slice b m d, .slice e k f] 25)) := (Below.refl _ w).alloc (Nat.le_refl _) _
  refine ⟨rfl, w.heap.size, 0, fun x => if x = 0 then a else if x = 1 then b else e, fun x => if x = 0 then n else if x = 1 then m else k, fun x => if x = 0 then c else if x = 1 then d else f, fun x hx => ?_⟩
  match x, hx with
  | 0, _ => exact ⟨rfl, by simp, by simp [go_sem], ha.below hbel, hn⟩
  | 1, _ => exact ⟨rfl, by simp, by simp [go_sem], hb.below hbel, hm⟩
  | 2, _ => exact ⟨rfl, by simp, by simp [go_sem], he.below hbel, hk⟩
theorem join_3 (w : World) (a b e : Option Addr) (n m k c d f : Nat) (la lb le : List Int) (ha : BAt w a n la) (hb : BAt w b m lb) (he : BAt w e k le) (hn : n ≤ 1000000) (hm : m ≤ 1000000) (hk : k ≤ 1000000) :
    Calls Try.prog 20 #[.slice (some ⟨w.heap.size, 0, none⟩) 3 3] (w.alloc (.cells #[.slice a n c, .slice b m d, .slice e k f] 25)) (NewB (n + (m + k)) (la ++ (lb ++ le)) (w.alloc (.cells #[.slice a n c, .slice b m d, .slice e k f] 25))) := by
  have l1 := ha.len; have l2 := hb.len; have l3 := he.len
  have := join_any (some ⟨w.heap.size, 0, none⟩) 3 3 [la, lb, le] _ (rat_3 w a b e n m k c d f la lb le ha hb he (by omega) (by omega) (by omega)) (by decide) (fun l hl => by simp at hl; rcases hl with rfl | rfl | rfl <;> omega) (n + (m + k)) (by simp; omega)
  simpa using this
theorem join_3g (w : World) (g : Nat) (hg : g = w.heap.size) (a b e : Option Addr) (n m k c d f : Nat) (la lb le : List Int) (ha : BAt w a n la) (hb : BAt w b m lb) (he : BAt w e k le) (hn : n ≤ 1000000) (hm : m ≤ 1000000) (hk : k ≤ 1000000) :
    Calls Try.prog 20 #[.slice (some ⟨g, 0, none⟩) 3 3] (w.alloc (.cells #[.slice a n c, .slice b m d, .slice e k f] 25)) (NewB (n + (m + k)) (la ++ (lb ++ le)) (w.alloc (.cells #[.slice a n c, .slice b m d, .slice e k f] 25))) := by
  subst hg; exact join_3 w a b e n m k c d f la lb le ha hb he hn hm hk
theorem join_2 (w : World) (a b : Option Addr) (n m c d : Nat) (la lb : List Int) (ha : BAt w a n la) (hb : BAt w b m lb) (hn : n ≤ 1000000) (hm : m ≤ 1000000) :
    Calls Try.prog 20 #[.slice (some ⟨w.heap.size, 0, none⟩) 2 2] (w.alloc (.cells #[.slice a n c, .slice b m d] 25)) (NewB (n + m) (la ++ lb) (w.alloc (.cells #[.slice a n c, .slice b m d] 25))) := by
  have l1 := ha.len; have l2 := hb.len
  have := join_any (some ⟨w.heap.size, 0, none⟩) 2 2 [la, lb] _ (rat_two w a b n m c d la lb ha hb (by omega) (by omega)) (by decide) (fun l hl => by simp at hl; rcases hl with rfl | rfl <;> omega) (n + m) (by simp; omega)
  simpa using this
/-- What the loop holds in front of block i: k is the last one's number. -/
def rHd (pt of : Nat → Int) (ds : Nat → List Int) (k i : Nat) : List Int := if i ≤ k then mhds pt of ds i else mhds pt of ds k ++ [pt k]
def rLg (ds : Nat → List Int) (k i : Nat) : Bool := if i ≤ k then anyL ds i else anyL ds k
theorem own_same {W W' : World} {base : Nat} {a : Option Addr} {n c : Nat} {l : List Int} (h : Own W base a n c l) (hs : ∀ x, a = some x → W'.heap[x.block]? = W.heap[x.block]?) : Own W' base a n c l := by
  refine ⟨⟨h.row.1, ?_⟩, h.ok⟩
  rcases h.row.2 with h' | ⟨g, cap, cur, e, hb', hg, rest⟩
  · exact .inl h'
  · simp only [Value.slice.injEq] at e
    exact .inr ⟨g, cap, cur, by simp [e], hb', (hs _ e.1).trans hg, rest⟩
structure RWI (w W : World) (pt of : Nat → Int) (ds : Nat → List Int) (k i : Nat) (ah : Option Addr) (nh ch : Nat) (ad : Option Addr) (nd cd : Nat) : Prop where
  hd : Own W w.heap.size ah nh ch (rHd pt of ds k i)
  dt : Own W w.heap.size ad nd cd (dts ds i)
  low : Below w.heap.size w W
  sep : ∀ x y, ah = some x → ad = some y → x.block < y.block
/-- append(s, x) of one byte, as append_one; and what else it leaves. -/
theorem append_one_k (W : World) (ty : TypeId) (base : Nat) (a : Option Addr) (n c : Nat) (l : List Int) (h : Own W base a n c l) (x : Int) (hx : 0 ≤ x ∧ x < 256) (hlim : n + 1 ≤ 140737488355328) (hbase : base ≤ W.heap.size) :
    ∃ a' c' w', (Builtin.append_ #[25, 25] ty #[.slice a n c, .slice (some ⟨W.heap.size, 0, none⟩) 1 1]).run Try.prog (W.alloc (.cells #[.int .u8 x] 5)) = .ok (.slice a' (n + 1) c') w' ∧
      Own w' base a' (n + 1) c' (l ++ [x]) ∧ Below base W w' ∧ (∀ k, k < W.heap.size → (∀ y, a = some y → y.block ≠ k) → w'.heap[k]? = W.heap[k]?) := by
  have hb0 : Below W.heap.size W (W.alloc (.cells #[.int .u8 x] 5)) := (Below.refl _ W).alloc (Nat.le_refl _) _
  obtain ⟨a', c', w', hr, ho, hg, _⟩ := append_bytes (W.alloc (.cells #[.int .u8 x] 5)) ty base a n c l (h.below hb0) (some ⟨W.heap.size, 0, none⟩) 1 1 [x] (lit_bat (l := [x]) (heap_alloc_new W _) (fun i => by cases i with | zero => exact hx | succ i => simp) (by simp)) hlim (by simp; omega)
  refine ⟨a', c', w', hr, ho, ((hb0.mono hbase).trans ((Below.refl _ _).grown hg (by simp; omega) (fun k e => ?_))), fun k hk hne => ?_⟩
  · cases a with
    | none => cases e
    | some y => have := (h.blk y rfl).1; simp at e; omega
  · refine (hg.block k (by simp; omega) (fun e => ?_)).trans (hb0.block k hk)
    cases a with
    | none => cases e
    | some y => simp at e; exact hne y rfl e.symm
set_option maxHeartbeats 1000000 in
set_option maxRecDepth 100000 in
theorem refw_any (a : Option Addr) (n c : Nat) (pt of : Nat → Int) (A : Nat → Option Addr) (C : Nat → Nat) (ds : Nat → List Int) (w : World) (h : BkAt w a n pt of A C ds) (hn : n ≤ 1000) (hd : ∀ i, i < n → (ds i).length ≤ 2000) :
    Calls Try.prog 8 #[.slice a n c] w (WrOut (rwcode n pt of ds) (rwbytes n pt of ds) w) := by
  have HH := Lib.hid h
  have HD := Lib.hid hd; clear h hd
  have hwb : rwcode n pt of ds ≠ 0 → rwbytes n pt of ds = [] := fun h => by unfold rwbytes; rw [if_neg h]
  by_cases h0 : n = 0
  · subst h0
    have e : rwcode 0 pt of ds = 4 := rfl
    rw [e] at hwb ⊢
    rw [hwb (by decide)]
    go_enter Try.func8, Try.ntmps8
    go_wp2
    refine bodyPost_ret (v := .tuple #[.slice none 0 0, .int .i64 4]) (by simp [results, Try.results8, go_sem]) rfl ?_
    exact WrOut.nil 4 w w (Below.refl _ _)
  obtain ⟨k, rfl⟩ : ∃ k, n = k + 1 := ⟨n - 1, by omega⟩
  have hnz : (((k + 1 : Nat) : Int) == 0) = false := by rw [beq_eq_false_iff_ne]; omega
  by_cases h8 : 8 < k + 1
  · have e : rwcode (k + 1) pt of ds = 3 := by unfold rwcode; rw [if_neg (by omega), if_pos h8]
    rw [e] at hwb ⊢
    rw [hwb (by decide)]
    have h8' : (8 : Int) < ((k + 1 : Nat) : Int) := by omega
    go_enter Try.func8, Try.ntmps8
    go_wp2_with fail
    refine bodyPost_ret (v := .tuple #[.slice none 0 0, .int .i64 3]) (by simp [results, Try.results8, go_sem]) rfl ?_
    exact WrOut.nil 3 w w (Below.refl _ _)
  have h8' : ¬ (8 : Int) < ((k + 1 : Nat) : Int) := by omega
  have hsub : IntKind.i64.wrap (((k + 1 : Nat) : Int) - 1) = (k : Int) := by rw [IntKind.wrap_i64]; omega
  have hsub2 : ((k + 1 : Nat) : Int) - 1 = (k : Int) := by omega
  have HWB := Lib.hid hwb; clear hwb
  obtain ⟨Post, hPost⟩ : ∃ Post, WrOut (rwcode (k + 1) pt of ds) (rwbytes (k + 1) pt of ds) w = Post := ⟨_, rfl⟩
  rw [hPost]
  have HPOST := Lib.hid hPost; clear hPost
  go_enter Try.func8, Try.ntmps8
  go_wp2_with fail
  have HERR : Hid (∀ W, Below w.heap.size w W → ∀ i, i < k + 1 → (okB (pt i) (of i) = false ∨ (i = k ∧ of i ≠ 0)) → Post (.returned (.tuple #[.slice none 0 0, .int .i64 1])) W) := Lib.hid fun W hB i hi hb => by
    have e : rwcode (k + 1) pt of ds = 1 := rwcode_bad (by omega) hi (by rcases hb with h | ⟨h, h'⟩; exact .inl h; exact .inr ⟨by omega, h'⟩)
    rw [← HPOST.out, e, HWB.out (by omega)]
    exact WrOut.nil 1 w W hB
  go_loopw [4, 5, 6, 7] (fun vh vd vl iv wr => ∃ (i nh nd : Nat) (ah : Option Addr) (ch : Nat) (ad : Option Addr) (cd : Nat) (lg : Bool), i ≤ k + 1 ∧ nh ≤ 4 * i ∧ nd ≤ 2000 * i ∧ vh = .slice ah nh ch ∧ vd = .slice ad nd cd ∧ vl = .bool lg ∧ iv = .int .i64 i ∧ Hid (rLg ds k i = lg) ∧ Hid (∀ j, j < i → okB (pt j) (of j) = true ∧ (j = k → of j = 0)) ∧ Hid (RWI w wr pt of ds k i ah nh ch ad nd cd)) (fun _ _ _ iv _ => k + 1 - (intOf iv).toNat)
  case atStart =>
    have hB : Below w.heap.size w (w.alloc (.cells #[] 5)) := (Below.refl _ w).alloc (Nat.le_refl _) _
    refine ⟨0, 0, 0, some ⟨w.heap.size, 0, none⟩, 0, some ⟨w.heap.size + 1, 0, none⟩, 0, false, by omega, by omega, by omega, rfl, rfl, rfl, rfl, Lib.hid (by simp [rLg, anyL]), Lib.hid (fun j hj => by omega), Lib.hid ⟨?_, ?_, ?_, ?_⟩⟩
    · have := (own_nil w w.heap.size (Nat.le_refl _)).below ((Below.refl _ (w.alloc (.cells #[] 5))).alloc (Nat.le_refl _) (.cells #[] 5))
      simpa [rHd, mhds] using this
    · have := own_nil (w.alloc (.cells #[] 5)) w.heap.size (by simp)
      simpa [dts] using this
    · exact hB.alloc (by simp) _
    · intro x y h1 h2; cases h1; cases h2; exact Nat.lt_succ_self _
  case round =>
    obtain ⟨i, nh, nd, ah, ch, ad, cd, lg, hi, hnh, hnd, rfl, rfl, rfl, rfl, HLG, HOK, HW⟩ := hrel
    by_cases hlt : i < k + 1
    · have hltz : (i : Int) < (k : Int) + 1 := by omega
      have hltz' : (i : Int) < ((k + 1 : Nat) : Int) := by omega
      have hi0 : (0 : Int) ≤ (i : Int) := by omega
      obtain ⟨b, o, hr⟩ := HH.out
      obtain ⟨rfl, hbl, g0, g1, g2, gb, _⟩ := hr i hlt
      have g0 : wr.cell? ⟨b, o + i * 3, none⟩ = some (.int .i64 (pt i)) := (HW.out.low.cell (p := ⟨b, o + i * 3, none⟩) hbl).trans g0
      have g1 : wr.cell? ⟨b, o + i * 3 + 1, none⟩ = some (.int .i64 (of i)) := (HW.out.low.cell (p := ⟨b, o + i * 3 + 1, none⟩) hbl).trans g1
      have g2 : wr.cell? ⟨b, o + i * 3 + 2, none⟩ = some (.slice (A i) (ds i).length (C i)) := (HW.out.low.cell (p := ⟨b, o + i * 3 + 2, none⟩) hbl).trans g2
      have HGB := Lib.hid gb
      have hdl := HD.out i hlt
      obtain ⟨w1, hw1⟩ : ∃ w1, wr.alloc (.cells #[.int .i64 (pt i), .int .i64 (of i), .slice (A i) (ds i).length (C i)] 50) = w1 := ⟨_, rfl⟩
      have hB1 : Below wr.heap.size wr w1 := by rw [← hw1]; exact (Below.refl _ wr).alloc (Nat.le_refl _) _
      have hbx : w1.heap[wr.heap.size]? = some (.cells #[.int .i64 (pt i), .int .i64 (of i), .slice (A i) (ds i).length (C i)] 50 (0, 0)) := by rw [← hw1]; exact lit_new rfl
      have hz1 : w1.heap.size = wr.heap.size + 1 := by rw [← hw1]; simp
      have HW1 := Lib.hid hw1; have HB1 := Lib.hid hB1; have HBX := Lib.hid hbx; have HZ1 := Lib.hid hz1
      have HLOW1 := Lib.hid (HW.out.low.trans (hB1.mono HW.out.low.size))
      have x0 : w1.cell? ⟨wr.heap.size, 0, none⟩ = some (.int .i64 (pt i)) := by rw [cell_of_row w1 _ 0 _ _ _ hbx]; rfl
      have x1 : w1.cell? ⟨wr.heap.size, 1, none⟩ = some (.int .i64 (of i)) := by rw [cell_of_row w1 _ 1 _ _ _ hbx]; rfl
      have x2 : w1.cell? ⟨wr.heap.size, 2, none⟩ = some (.slice (A i) (ds i).length (C i)) := by rw [cell_of_row w1 _ 2 _ _ _ hbx]; rfl
      clear hr gb hw1 hB1 hbx hz1
      by_cases hok : okB (pt i) (of i) = true ∧ (i = k → of i = 0)
      case neg =>
        have HP : Hid (Post (.returned (.tuple #[.slice none 0 0, .int .i64 1])) w1) := Lib.hid (HERR.out w1 HLOW1.out i hlt (by
          by_cases h1 : okB (pt i) (of i) = true
          · right
            by_cases h2 : i = k
            · exact ⟨h2, fun h3 => hok ⟨h1, fun _ => h3⟩⟩
            · exact absurd ⟨h1, fun h => absurd h h2⟩ hok
          · left; simpa using h1))
        have hcase : (pt i < 0) ∨ (¬ pt i < 0 ∧ 127 < pt i) ∨ (¬ pt i < 0 ∧ ¬ 127 < pt i ∧ of i < 0) ∨ (¬ pt i < 0 ∧ ¬ 127 < pt i ∧ ¬ of i < 0 ∧ 16383 < of i) ∨ (¬ pt i < 0 ∧ ¬ 127 < pt i ∧ ¬ of i < 0 ∧ ¬ 16383 < of i ∧ i = k ∧ of i ≠ 0) := by
          by_cases h1 : pt i < 0
          · exact .inl h1
          by_cases h2 : 127 < pt i
          · exact .inr (.inl ⟨h1, h2⟩)
          by_cases h3 : of i < 0
          · exact .inr (.inr (.inl ⟨h1, h2, h3⟩))
          by_cases h4 : 16383 < of i
          · exact .inr (.inr (.inr (.inl ⟨h1, h2, h3, h4⟩)))
          refine .inr (.inr (.inr (.inr ⟨h1, h2, h3, h4, ?_⟩)))
          have hk : okB (pt i) (of i) = true := by simp [okB, okPT]; omega
          by_cases h5 : i = k
          · exact ⟨h5, fun h => hok ⟨hk, fun _ => h⟩⟩
          · exact absurd ⟨hk, fun h => absurd h h5⟩ hok
        clear hok HOK HLG HGB HLOW1 HBX HB1 HERR
        generalize pt i = p at *
        generalize hov : of i = ov at *
        generalize (ds i).length = nl at *
        rcases hcase with h | ⟨h, j1⟩ | ⟨h, j1, j2⟩ | ⟨h, j1, j2, j3⟩ | ⟨h, j1, j2, j3, hik, h5⟩
        · go_upto_region 11 with (fail)
          rw [HW1.out]
          go_wp2_with fail
          exact HP.out
        · go_upto_region 11 with (fail)
          rw [HW1.out]
          go_wp2_with fail
          exact HP.out
        · go_upto_region 11 with (fail)
          rw [HW1.out]
          go_wp2_with fail
          exact HP.out
        · go_upto_region 11 with (fail)
          rw [HW1.out]
          go_wp2_with fail
          exact HP.out
        · subst hik
          have hii : ((i : Int) == (i : Int)) = true := by simp
          have h6 : (ov != 0) = true := by simpa using h5
          go_upto_region 11 with (fail)
          rw [HW1.out]
          go_wp2_with fail
          exact HP.out
      case pos =>
        obtain ⟨hok1, hok2⟩ := hok
        simp only [okB, okPT, Bool.and_eq_true, decide_eq_true_eq] at hok1
        obtain ⟨⟨p1, p2⟩, o1, o2⟩ := hok1
        have HOK2 : Hid (∀ j, j < i + 1 → okB (pt j) (of j) = true ∧ (j = k → of j = 0)) := Lib.hid fun j hj => by
          by_cases e : j = i
          · subst e
            exact ⟨by simp [okB, okPT]; omega, hok2⟩
          · exact HOK.out j (by omega)
        have h1 : ¬ pt i < 0 := by omega
        have h2 : ¬ 127 < pt i := by omega
        have h3 : ¬ of i < 0 := by omega
        have h4 : ¬ 16383 < of i := by omega
        have HDT : Hid (dts ds (i + 1) = dts ds i ++ ds i) := Lib.hid rfl
        have hA1 : BAt w1 ah nh (rHd pt of ds k i) := HW.out.hd.bat.below HB1.out
        have hD1 : BAt w1 ad nd (dts ds i) := HW.out.dt.bat.below HB1.out
        have HOD : Hid (Own w1 w.heap.size ah nh ch (rHd pt of ds k i)) := Lib.hid (HW.out.hd.below HB1.out)
        have HA1 := Lib.hid hA1; have HD1 := Lib.hid hD1
        have hzw := HLOW1.out.size
        have HOW := Lib.hid HW.out.hd; have HDW := Lib.hid HW.out.dt; have HSEP := Lib.hid HW.out.sep
        clear hA1 hD1 HOK HERR HW
        by_cases hik : i = k
        · subst hik
          have hii : ((i : Int) == (i : Int)) = true := by simp
          have h6 : (of i != 0) = false := by simpa using hok2 rfl
          have hwp : IntKind.u8.wrap (pt i) = pt i := by simp [IntKind.wrap, IntKind.bits, IntKind.signed]; omega
          have HHD : Hid (rHd pt of ds i (i + 1) = rHd pt of ds i i ++ [pt i]) := Lib.hid (by unfold rHd; rw [if_neg (by omega), if_pos (Nat.le_refl _)])
          have HLG2 : Hid (rLg ds i (i + 1) = lg) := Lib.hid (by rw [← HLG.out]; unfold rLg; rw [if_neg (by omega), if_pos (Nat.le_refl _)])
          have hahb : ∀ y, ah = some y → y.block ≠ wr.heap.size := fun y hy => by have := (HOW.out.blk y hy).2; omega
          obtain ⟨a5, c5, w5, hrun, hO5, hB5, hk5⟩ := append_one_k w1 25 w.heap.size ah nh ch _ HOD.out (pt i) ⟨p1, by omega⟩ (by omega) HLOW1.out.size
          have hB5' : Below w.heap.size w w5 := HLOW1.out.trans hB5
          have hbx5 : w5.heap[wr.heap.size]? = some (.cells #[.int .i64 (pt i), .int .i64 (of i), .slice (A i) (ds i).length (C i)] 50 (0, 0)) := (hk5 _ (by have := HZ1.out; omega) hahb).trans HBX.out
          have y2 : w5.cell? ⟨wr.heap.size, 2, none⟩ = some (.slice (A i) (ds i).length (C i)) := by rw [cell_of_row w5 _ 2 _ _ _ hbx5]; rfl
          have HXD5 : Hid (BAt w5 (A i) (ds i).length (ds i)) := Lib.hid (HGB.out.below hB5')
          have hD5 : BAt w5 ad nd (dts ds i) := (own_same (W := w1) (own_same (W := wr) HDW.out (fun x hx => HB1.out.block _ (HDW.out.blk x hx).2)) (fun x hx => hk5 _ (Nat.lt_of_lt_of_le (HDW.out.blk x hx).2 HB1.out.size) (fun y hy => Nat.ne_of_lt (HSEP.out y x hy hx)))).bat
          have HJ := Lib.hid (join_2 w5 ad (A i) nd (ds i).length cd (C i) _ _ hD5 HXD5.out (by omega) (by omega))
          have HRUN := Lib.hid hrun
          have HO5 := Lib.hid hO5; have HB5 := Lib.hid hB5'
          have hzz := hB5'.size
          clear hrun hO5 hB5 hk5 hbx5 hok2 HLG HDW HSEP hahb hD5 HXD5 HOD HD1 HA1 HOW hB5'
          generalize hpt : pt i = p at *
          generalize hov : of i = ov at *
          generalize hnl : (ds i).length = nl at *
          have HPT := Lib.hid hpt; have HOV := Lib.hid hov; have HNL := Lib.hid hnl
          clear hpt hov hnl
          go_upto_region 11 with (fail)
          rw [HW1.out]
          go_wp2_with (first
            | (at_builtin; refine Lib.wpList_append_run _ rfl (.tmp 62) (.tmp 66) 25 25 rfl (.slice ah nh ch) _ (by rfl) (by rfl) _ _ HRUN.out ?_)
            | (go_at_call 20; refine (HJ.out).mono ?_; rintro e w6 ⟨a6, c6, rfl, hO6, hB6⟩))
          have hsz : w5.heap.size ≤ (w5.alloc (.cells #[.slice ad nd cd, .slice (A i) nl (C i)] 25)).heap.size := by simp
          have hB56 : Below w5.heap.size w5 w6 := (((Below.refl _ w5).alloc (Nat.le_refl _) _).trans (hB6.mono hsz))
          have HN : Hid (RWI w w6 pt of ds i (i + 1) a5 (nh + 1) c5 a6 (nd + nl) c6) := Lib.hid ⟨by rw [HHD.out]; exact HO5.out.below hB56, by rw [HDT.out]; exact hO6.mono (by omega), HB5.out.trans (hB56.mono hzz), fun x y hx hy => by have h1 := (HO5.out.blk x hx).2; have h2 := (hO6.blk y hy).1; omega⟩
          clear hO6 hB6 hB56 hsz HJ HRUN HO5 HB5
          go_roundw
          case rel => exact ⟨i + 1, nh + 1, nd + nl, a5, c5, a6, c6, lg, by omega, by omega, by omega, rfl, rfl, rfl, by go_num, HLG2, HOK2, HN⟩
          case measure => simp [intOf]
        · have hikl : i < k := by omega
          have hii : ((i : Int) == (k : Int)) = false := by rw [beq_eq_false_iff_ne]; omega
          have hwp1 : IntKind.i64.wrap (pt i + 128) = pt i + 128 := by rw [IntKind.wrap_i64]; omega
          have hwp2 : IntKind.u8.wrap (pt i + 128) = pt i + 128 := by simp [IntKind.wrap, IntKind.bits, IntKind.signed]; omega
          have hwo1 : IntKind.i64.wrap (of i * 1024) = of i * 1024 := by rw [IntKind.wrap_i64]; omega
          have hmod : ((ds i).length : Int).tmod 1024 = (((ds i).length % 1024 : Nat) : Int) := by
            rw [Int.tmod_eq_emod_of_nonneg (by omega)]; omega
          have hmod2 : IntKind.i64.wrap (((ds i).length % 1024 : Nat) : Int) = (((ds i).length % 1024 : Nat) : Int) := by rw [IntKind.wrap_i64]; omega
          obtain ⟨X, hX⟩ : ∃ X, of i * 1024 + (((ds i).length % 1024 : Nat) : Int) = X := ⟨_, rfl⟩
          have hXb : 0 ≤ X ∧ X < 16777216 := by omega
          have hwo2 : IntKind.i64.wrap X = X := by rw [IntKind.wrap_i64]; omega
          have hwo3 : IntKind.u64.wrap X = X := by simp [IntKind.wrap, IntKind.bits, IntKind.signed]; omega
          have HHD : Hid (rHd pt of ds k (i + 1) = rHd pt of ds k i ++ ([pt i + 128] ++ Big 3 X)) := Lib.hid (by rw [← hX]; unfold rHd; rw [if_pos (by omega), if_pos (by omega)]; rfl)
          have HLG2 : Hid (rLg ds k (i + 1) = (lg || decide (1023 < (ds i).length))) := Lib.hid (by rw [← HLG.out]; unfold rLg; rw [if_pos (by omega), if_pos (by omega)]; rfl)
          have HTR : Hid (∀ W W' : World, Below w1.heap.size w1 W → Below W.heap.size W W' → Below w1.heap.size w1 W') := Lib.hid fun W W' h h' => h.trans (h'.mono h.size)
          have HGB1 : Hid (∀ W, Below w1.heap.size w1 W → BAt W (A i) (ds i).length (ds i)) := Lib.hid fun W h => HGB.out.below (HLOW1.out.trans (h.mono HLOW1.out.size))
          have HLOWW : Hid (∀ W, Below w1.heap.size w1 W → Below w.heap.size w W) := Lib.hid fun W h => HLOW1.out.trans (h.mono HLOW1.out.size)
          have HNDL := Lib.hid hdl
          clear hok2 HLG HDW HSEP HOD HOW hmod2
          clear HGB
          generalize hpt : pt i = p at *
          generalize hov : of i = q at *
          generalize hnl : (ds i).length = z at *
          have HPT := Lib.hid hpt; have HOV := Lib.hid hov; have HNL := Lib.hid hnl; have HX := Lib.hid hX
          clear hpt hov hnl
          generalize hzm : z % 1024 = zm at *
          have HZM := Lib.hid hzm; clear hzm
          have hMK : ∀ W : World, Below w1.heap.size w1 W → (W.cell? ⟨wr.heap.size, 0, none⟩ = some (.int .i64 p) ∧ W.cell? ⟨wr.heap.size, 1, none⟩ = some (.int .i64 q) ∧ W.cell? ⟨wr.heap.size, 2, none⟩ = some (.slice (A i) z (C i))) ∧ Below w1.heap.size w1 W := fun W h => by
            have bx := (h.block wr.heap.size (by have := HZ1.out; omega)).trans HBX.out
            refine ⟨⟨?_, ?_, ?_⟩, h⟩ <;> (rw [cell_of_row W _ _ _ _ _ bx]; rfl)
          have MK := Lib.hid hMK
          have DR : Hid (∀ W : World, (W.cell? ⟨wr.heap.size, 0, none⟩ = some (.int .i64 p) ∧ W.cell? ⟨wr.heap.size, 1, none⟩ = some (.int .i64 q) ∧ W.cell? ⟨wr.heap.size, 2, none⟩ = some (.slice (A i) z (C i))) ∧ Below w1.heap.size w1 W → (W.drew.cell? ⟨wr.heap.size, 0, none⟩ = some (.int .i64 p) ∧ W.drew.cell? ⟨wr.heap.size, 1, none⟩ = some (.int .i64 q) ∧ W.drew.cell? ⟨wr.heap.size, 2, none⟩ = some (.slice (A i) z (C i))) ∧ Below w1.heap.size w1 W.drew) := Lib.hid fun W h => hMK _ (HTR.out _ _ h.2 (Below.refl _ W).drew)
          have BAL : Hid (∀ W : World, Below W.heap.size W (W.alloc (.cells #[.int .u8 (p + 128)] 5))) := Lib.hid fun W => (Below.refl _ W).alloc (Nat.le_refl _) _
          have SAL : Hid (∀ W : World, (W.cell? ⟨wr.heap.size, 0, none⟩ = some (.int .i64 p) ∧ W.cell? ⟨wr.heap.size, 1, none⟩ = some (.int .i64 q) ∧ W.cell? ⟨wr.heap.size, 2, none⟩ = some (.slice (A i) z (C i))) ∧ Below w1.heap.size w1 W → ((W.alloc (.cells #[.int .u8 (p + 128)] 5)).cell? ⟨wr.heap.size, 0, none⟩ = some (.int .i64 p) ∧ (W.alloc (.cells #[.int .u8 (p + 128)] 5)).cell? ⟨wr.heap.size, 1, none⟩ = some (.int .i64 q) ∧ (W.alloc (.cells #[.int .u8 (p + 128)] 5)).cell? ⟨wr.heap.size, 2, none⟩ = some (.slice (A i) z (C i))) ∧ Below w1.heap.size w1 (W.alloc (.cells #[.int .u8 (p + 128)] 5))) := Lib.hid fun W h => hMK _ (HTR.out _ _ h.2 (BAL.out W))
          have LIT : Hid (∀ W : World, BAt (W.alloc (.cells #[.int .u8 (p + 128)] 5)) (some ⟨W.heap.size, 0, none⟩) 1 [p + 128]) := Lib.hid fun W => lit_bat (l := [p + 128]) (heap_alloc_new W _) (fun t => by
            match t with
            | 0 => simp; omega
            | t + 1 => simp) (by simp)
          have B3 : Hid (Below w1.heap.size w1 ((w1.alloc (.cells #[.int .u8 (p + 128)] 5)).drew)) := Lib.hid ((Below.refl _ w1).alloc (Nat.le_refl _) _).drew
          have B3' : Hid (Below w1.heap.size w1 w1.drew) := Lib.hid (Below.refl _ w1).drew
          have HT3 : Hid (BAt ((w1.alloc (.cells #[.int .u8 (p + 128)] 5)).drew) (some ⟨w1.heap.size, 0, none⟩) 1 [p + 128]) := Lib.hid (lit_bat (l := [p + 128]) (heap_alloc_new w1 _) (fun t => by
            match t with
            | 0 => simp; omega
            | t + 1 => simp) (by simp))
          have HBIG : Hid (∀ W, Calls Try.prog 21 #[.int .u64 X, .int .i64 3] W (NewB 3 (Big 3 X) W)) := Lib.hid fun W => rbig_any X 3 W hXb.1 (by omega) (by decide)
          have hS1 := hMK w1 (Below.refl _ _)
          have hS3 := MK.out _ B3.out
          clear hMK
          have hcase : (lg = true) ∨ (lg = false ∧ (1023 : Int) < (z : Int)) ∨ (lg = false ∧ ¬ (1023 : Int) < (z : Int)) := by
            cases lg
            · by_cases h : (1023 : Int) < (z : Int)
              · exact .inr (.inl ⟨rfl, h⟩)
              · exact .inr (.inr ⟨rfl, h⟩)
            · exact .inl rfl
          obtain ⟨lg2, hlg2⟩ : ∃ b, (lg || decide (1023 < z)) = b := ⟨_, rfl⟩
          rw [hlg2] at HLG2
          rcases hcase with h | ⟨h, hz⟩ | ⟨h, hz⟩
          · subst h
            obtain rfl : true = lg2 := by simpa using hlg2
            go_upto_region 11 with (fail)
            rw [HW1.out]
            go_upto_region 16 with (fail)
            clear x0 x1 x2 g0 g1 g2
            go_region_held3 (fun W : World => (W.cell? ⟨wr.heap.size, 0, none⟩ = some (.int .i64 p) ∧ W.cell? ⟨wr.heap.size, 1, none⟩ = some (.int .i64 q) ∧ W.cell? ⟨wr.heap.size, 2, none⟩ = some (.slice (A i) z (C i))) ∧ Below w1.heap.size w1 W) (first | with_reducible assumption | with_reducible exact DR.out _ (by with_reducible assumption) | with_reducible exact hS3 | with_reducible exact SAL.out _ (by with_reducible assumption) | with_reducible exact DR.out _ (SAL.out _ (by with_reducible assumption)) | with_reducible exact hS12 _ | with_reducible exact hS12' _)
              (first
                | (go_at_call 21; refine (HBIG.out _).mono ?_; rintro e w2 ⟨a2, c2, rfl, hO2, hB2⟩; (first | with_reducible have hB2' := HTR.out _ _ B3.out hB2 | with_reducible have hB2' := HTR.out _ _ B3'.out hB2); with_reducible have hS2 := MK.out _ hB2'; (first | with_reducible have HT2 := Lib.hid (HT3.out.below hB2) | with_reducible have HT2 := Lib.hid trivial); have HG2 := Lib.hid hO2.bat; have HA2 := Lib.hid (HA1.out.below hB2'); have hS12 := (fun o => MK.out _ (HTR.out _ _ hB2' ((Below.refl _ w2).alloc (Nat.le_refl _) o))); have hS12' := (fun o => MK.out _ (HTR.out _ _ (HTR.out _ _ hB2' (BAL.out w2)) ((Below.refl _ _).alloc (Nat.le_refl _) o))); clear hO2 hB2 hB2')
                | (go_at_call 20; (first | with_reducible refine (join_3g w2 w2.heap.size rfl _ _ _ _ _ _ _ _ _ _ _ _ HA2.out HT2.out HG2.out (by omega) (by omega) (by omega)).mono ?_ | with_reducible refine (join_3g _ (w2.heap.size + 1) (by simp) _ _ _ _ _ _ _ _ _ _ _ _ (HA2.out.below (BAL.out w2)) (LIT.out w2) (HG2.out.below (BAL.out w2)) (by omega) (by omega) (by omega)).mono ?_); rintro e w3 ⟨a3, c3, rfl, hO3, hB3⟩; (first | with_reducible have hB3' := HTR.out _ _ (hS12 _).2 hB3 | with_reducible have hB3' := HTR.out _ _ (hS12' _).2 hB3); with_reducible have hS9 := MK.out _ hB3'; (first | with_reducible have HO3 := Lib.hid (hO3.mono (HLOWW.out _ (hS12 _).2).size) | with_reducible have HO3 := Lib.hid (hO3.mono (HLOWW.out _ (hS12' _).2).size)); clear hO3 hB3 hB3'))
            all_goals
              obtain ⟨⟨e0, e1, e2⟩, hB9⟩ := hS9
              have HJ := Lib.hid (join_2 w3 ad (A i) nd z cd (C i) _ _ (HD1.out.below hB9) (HGB1.out _ hB9) (by omega) (by omega))
              have HLW3 := Lib.hid (HLOWW.out _ hB9)
              clear hS1 hS2 hS3 hS12 hS12' HA2 HT2 HG2 MK DR SAL BAL LIT B3 B3' HT3 HBIG HTR HGB1 HLOWW
              go_wp2_with (go_at_call 20; refine (HJ.out).mono ?_; rintro e w6 ⟨a6, c6, rfl, hO6, hB6⟩)
              have hzz := HLW3.out.size
              have hsz : w3.heap.size ≤ (w3.alloc (.cells #[.slice ad nd cd, .slice (A i) z (C i)] 25)).heap.size := by simp
              have hB56 : Below w3.heap.size w3 w6 := (((Below.refl _ w3).alloc (Nat.le_refl _) _).trans (hB6.mono hsz))
              have HN : Hid (RWI w w6 pt of ds k (i + 1) a3 (nh + (1 + 3)) c3 a6 (nd + z) c6) := Lib.hid ⟨by rw [HHD.out]; exact HO3.out.below hB56, by rw [HDT.out]; exact hO6.mono (by omega), HLW3.out.trans (hB56.mono hzz), fun x y hx hy => by have h1 := (HO3.out.blk x hx).2; have h2 := (hO6.blk y hy).1; omega⟩
              clear hO6 hB6 hB56 hsz HJ HO3 HLW3
              go_roundw
              case rel => exact ⟨i + 1, nh + (1 + 3), nd + z, a3, c3, a6, c6, _, by omega, by omega, by omega, rfl, rfl, rfl, by go_num, HLG2, HOK2, HN⟩
              case measure => simp [intOf]; omega
          · subst h
            obtain rfl : true = lg2 := by rw [← hlg2]; simp; omega
            go_upto_region 11 with (fail)
            rw [HW1.out]
            go_upto_region 16 with (fail)
            clear x0 x1 x2 g0 g1 g2
            go_region_held3 (fun W : World => (W.cell? ⟨wr.heap.size, 0, none⟩ = some (.int .i64 p) ∧ W.cell? ⟨wr.heap.size, 1, none⟩ = some (.int .i64 q) ∧ W.cell? ⟨wr.heap.size, 2, none⟩ = some (.slice (A i) z (C i))) ∧ Below w1.heap.size w1 W) (first | with_reducible assumption | with_reducible exact DR.out _ (by with_reducible assumption) | with_reducible exact hS3 | with_reducible exact SAL.out _ (by with_reducible assumption) | with_reducible exact DR.out _ (SAL.out _ (by with_reducible assumption)) | with_reducible exact hS12 _ | with_reducible exact hS12' _)
              (first
                | (go_at_call 21; refine (HBIG.out _).mono ?_; rintro e w2 ⟨a2, c2, rfl, hO2, hB2⟩; (first | with_reducible have hB2' := HTR.out _ _ B3.out hB2 | with_reducible have hB2' := HTR.out _ _ B3'.out hB2); with_reducible have hS2 := MK.out _ hB2'; (first | with_reducible have HT2 := Lib.hid (HT3.out.below hB2) | with_reducible have HT2 := Lib.hid trivial); have HG2 := Lib.hid hO2.bat; have HA2 := Lib.hid (HA1.out.below hB2'); have hS12 := (fun o => MK.out _ (HTR.out _ _ hB2' ((Below.refl _ w2).alloc (Nat.le_refl _) o))); have hS12' := (fun o => MK.out _ (HTR.out _ _ (HTR.out _ _ hB2' (BAL.out w2)) ((Below.refl _ _).alloc (Nat.le_refl _) o))); clear hO2 hB2 hB2')
                | (go_at_call 20; (first | with_reducible refine (join_3g w2 w2.heap.size rfl _ _ _ _ _ _ _ _ _ _ _ _ HA2.out HT2.out HG2.out (by omega) (by omega) (by omega)).mono ?_ | with_reducible refine (join_3g _ (w2.heap.size + 1) (by simp) _ _ _ _ _ _ _ _ _ _ _ _ (HA2.out.below (BAL.out w2)) (LIT.out w2) (HG2.out.below (BAL.out w2)) (by omega) (by omega) (by omega)).mono ?_); rintro e w3 ⟨a3, c3, rfl, hO3, hB3⟩; (first | with_reducible have hB3' := HTR.out _ _ (hS12 _).2 hB3 | with_reducible have hB3' := HTR.out _ _ (hS12' _).2 hB3); with_reducible have hS9 := MK.out _ hB3'; (first | with_reducible have HO3 := Lib.hid (hO3.mono (HLOWW.out _ (hS12 _).2).size) | with_reducible have HO3 := Lib.hid (hO3.mono (HLOWW.out _ (hS12' _).2).size)); clear hO3 hB3 hB3'))
            all_goals
              obtain ⟨⟨e0, e1, e2⟩, hB9⟩ := hS9
              have HJ := Lib.hid (join_2 w3 ad (A i) nd z cd (C i) _ _ (HD1.out.below hB9) (HGB1.out _ hB9) (by omega) (by omega))
              have HLW3 := Lib.hid (HLOWW.out _ hB9)
              clear hS1 hS2 hS3 hS12 hS12' HA2 HT2 HG2 MK DR SAL BAL LIT B3 B3' HT3 HBIG HTR HGB1 HLOWW
              go_wp2_with (go_at_call 20; refine (HJ.out).mono ?_; rintro e w6 ⟨a6, c6, rfl, hO6, hB6⟩)
              have hzz := HLW3.out.size
              have hsz : w3.heap.size ≤ (w3.alloc (.cells #[.slice ad nd cd, .slice (A i) z (C i)] 25)).heap.size := by simp
              have hB56 : Below w3.heap.size w3 w6 := (((Below.refl _ w3).alloc (Nat.le_refl _) _).trans (hB6.mono hsz))
              have HN : Hid (RWI w w6 pt of ds k (i + 1) a3 (nh + (1 + 3)) c3 a6 (nd + z) c6) := Lib.hid ⟨by rw [HHD.out]; exact HO3.out.below hB56, by rw [HDT.out]; exact hO6.mono (by omega), HLW3.out.trans (hB56.mono hzz), fun x y hx hy => by have h1 := (HO3.out.blk x hx).2; have h2 := (hO6.blk y hy).1; omega⟩
              clear hO6 hB6 hB56 hsz HJ HO3 HLW3
              go_roundw
              case rel => exact ⟨i + 1, nh + (1 + 3), nd + z, a3, c3, a6, c6, _, by omega, by omega, by omega, rfl, rfl, rfl, by go_num, HLG2, HOK2, HN⟩
              case measure => simp [intOf]; omega
          · subst h
            obtain rfl : false = lg2 := by rw [← hlg2]; simp; omega
            go_upto_region 11 with (fail)
            rw [HW1.out]
            go_upto_region 16 with (fail)
            clear x0 x1 x2 g0 g1 g2
            go_region_held3 (fun W : World => (W.cell? ⟨wr.heap.size, 0, none⟩ = some (.int .i64 p) ∧ W.cell? ⟨wr.heap.size, 1, none⟩ = some (.int .i64 q) ∧ W.cell? ⟨wr.heap.size, 2, none⟩ = some (.slice (A i) z (C i))) ∧ Below w1.heap.size w1 W) (first | with_reducible assumption | with_reducible exact DR.out _ (by with_reducible assumption) | with_reducible exact hS3 | with_reducible exact SAL.out _ (by with_reducible assumption) | with_reducible exact DR.out _ (SAL.out _ (by with_reducible assumption)) | with_reducible exact hS12 _ | with_reducible exact hS12' _)
              (first
                | (go_at_call 21; refine (HBIG.out _).mono ?_; rintro e w2 ⟨a2, c2, rfl, hO2, hB2⟩; (first | with_reducible have hB2' := HTR.out _ _ B3.out hB2 | with_reducible have hB2' := HTR.out _ _ B3'.out hB2); with_reducible have hS2 := MK.out _ hB2'; (first | with_reducible have HT2 := Lib.hid (HT3.out.below hB2) | with_reducible have HT2 := Lib.hid trivial); have HG2 := Lib.hid hO2.bat; have HA2 := Lib.hid (HA1.out.below hB2'); have hS12 := (fun o => MK.out _ (HTR.out _ _ hB2' ((Below.refl _ w2).alloc (Nat.le_refl _) o))); have hS12' := (fun o => MK.out _ (HTR.out _ _ (HTR.out _ _ hB2' (BAL.out w2)) ((Below.refl _ _).alloc (Nat.le_refl _) o))); clear hO2 hB2 hB2')
                | (go_at_call 20; (first | with_reducible refine (join_3g w2 w2.heap.size rfl _ _ _ _ _ _ _ _ _ _ _ _ HA2.out HT2.out HG2.out (by omega) (by omega) (by omega)).mono ?_ | with_reducible refine (join_3g _ (w2.heap.size + 1) (by simp) _ _ _ _ _ _ _ _ _ _ _ _ (HA2.out.below (BAL.out w2)) (LIT.out w2) (HG2.out.below (BAL.out w2)) (by omega) (by omega) (by omega)).mono ?_); rintro e w3 ⟨a3, c3, rfl, hO3, hB3⟩; (first | with_reducible have hB3' := HTR.out _ _ (hS12 _).2 hB3 | with_reducible have hB3' := HTR.out _ _ (hS12' _).2 hB3); with_reducible have hS9 := MK.out _ hB3'; (first | with_reducible have HO3 := Lib.hid (hO3.mono (HLOWW.out _ (hS12 _).2).size) | with_reducible have HO3 := Lib.hid (hO3.mono (HLOWW.out _ (hS12' _).2).size)); clear hO3 hB3 hB3'))
            all_goals
              obtain ⟨⟨e0, e1, e2⟩, hB9⟩ := hS9
              have HJ := Lib.hid (join_2 w3 ad (A i) nd z cd (C i) _ _ (HD1.out.below hB9) (HGB1.out _ hB9) (by omega) (by omega))
              have HLW3 := Lib.hid (HLOWW.out _ hB9)
              clear hS1 hS2 hS3 hS12 hS12' HA2 HT2 HG2 MK DR SAL BAL LIT B3 B3' HT3 HBIG HTR HGB1 HLOWW
              go_wp2_with (go_at_call 20; refine (HJ.out).mono ?_; rintro e w6 ⟨a6, c6, rfl, hO6, hB6⟩)
              have hzz := HLW3.out.size
              have hsz : w3.heap.size ≤ (w3.alloc (.cells #[.slice ad nd cd, .slice (A i) z (C i)] 25)).heap.size := by simp
              have hB56 : Below w3.heap.size w3 w6 := (((Below.refl _ w3).alloc (Nat.le_refl _) _).trans (hB6.mono hsz))
              have HN : Hid (RWI w w6 pt of ds k (i + 1) a3 (nh + (1 + 3)) c3 a6 (nd + z) c6) := Lib.hid ⟨by rw [HHD.out]; exact HO3.out.below hB56, by rw [HDT.out]; exact hO6.mono (by omega), HLW3.out.trans (hB56.mono hzz), fun x y hx hy => by have h1 := (HO3.out.blk x hx).2; have h2 := (hO6.blk y hy).1; omega⟩
              clear hO6 hB6 hB56 hsz HJ HO3 HLW3
              go_roundw
              case rel => exact ⟨i + 1, nh + (1 + 3), nd + z, a3, c3, a6, c6, _, by omega, by omega, by omega, rfl, rfl, rfl, by go_num, HLG2, HOK2, HN⟩
              case measure => simp [intOf]; omega
    · obtain rfl : i = k + 1 := by omega
      have hx1 : ¬ ((k + 1 : Nat) : Int) < (k : Int) + 1 := by omega
      have hx2 : ¬ ((k + 1 : Nat) : Int) < ((k + 1 : Nat) : Int) := by omega
      have hokF : okF pt of (k + 1) = true := (okF_all _).2 fun j hj => (HOK.out j hj).1
      have h00 : of k = 0 := (HOK.out k (by omega)).2 rfl
      have hcode := rwcode_good (ds := ds) (show k < 8 by omega) hokF h00
      have hlgk : anyL ds k = lg := by have := HLG.out; unfold rLg at this; rw [if_neg (by omega)] at this; exact this
      have hhk : rHd pt of ds k (k + 1) = mhds pt of ds k ++ [pt k] := by unfold rHd; rw [if_neg (by omega)]
      have hpb : ∀ j, j ≤ k → 0 ≤ pt j ∧ pt j ≤ 127 := fun j hj => by have := (HOK.out j (by omega)).1; simp [okB, okPT] at this; omega
      have hhl : nh = 4 * k + 1 := by
        have := HW.out.hd.len
        rw [hhk, List.length_append, mhds_len] at this
        simpa using this.symm
      have hdl : nd = psum (fun j => (ds j).length) (k + 1) := by
        have := HW.out.dt.len
        rw [dts_len] at this
        exact this.symm
      have hOh := HW.out.hd; have hOd := HW.out.dt; have hlw := HW.out.low
      rw [hhk] at hOh
      rw [hlgk, ← hdl, ← hhl] at hcode
      have HC := Lib.hid hcode
      have HJ := Lib.hid (join_2 wr ah ad nh nd ch cd _ _ hOh.bat hOd.bat (by omega) (by omega))
      have HLW := Lib.hid hlw
      have HRF : Hid (rwcode (k + 1) pt of ds = 0 → lg = false → rwbytes (k + 1) pt of ds = (mhds pt of ds k ++ [pt k]) ++ dts ds (k + 1)) := Lib.hid fun h hl => rwbytes_ref h hpb (hlgk.trans hl)
      clear hokF h00 hcode hlgk hhk hpb hhl hdl hOh hOd hlw HW HOK HLG
      cases lg
      case true =>
        have HP : Hid (Post (.returned (.tuple #[.slice none 0 0, .int .i64 2])) wr) := Lib.hid (by
          have e : rwcode (k + 1) pt of ds = 2 := by rw [HC.out]; simp
          rw [← HPOST.out, e, HWB.out (by omega)]
          exact WrOut.nil 2 w wr HLW.out)
        clear HC HJ HRF HERR
        go_wp2_with fail
        exact HP.out
      case false =>
        by_cases hs : 1500 < nh + nd
        · have HP : Hid (Post (.returned (.tuple #[.slice none 0 0, .int .i64 2])) wr) := Lib.hid (by
            have e : rwcode (k + 1) pt of ds = 2 := by rw [HC.out]; simp [hs]
            rw [← HPOST.out, e, HWB.out (by omega)]
            exact WrOut.nil 2 w wr HLW.out)
          have hs1 : IntKind.i64.wrap ((nh : Int) + (nd : Int)) = (nh : Int) + (nd : Int) := by rw [IntKind.wrap_i64]; omega
          have hs2 : (1500 : Int) < (nh : Int) + (nd : Int) := by omega
          clear HC HJ HRF HERR hs
          go_wp2_with fail
          exact HP.out
        · have hs1 : IntKind.i64.wrap ((nh : Int) + (nd : Int)) = (nh : Int) + (nd : Int) := by rw [IntKind.wrap_i64]; omega
          have hs2 : ¬ (1500 : Int) < (nh : Int) + (nd : Int) := by omega
          have hc0 : rwcode (k + 1) pt of ds = 0 := by rw [HC.out]; simp [hs]
          have HP : Hid (∀ a4 c4 W, Own W (wr.alloc (.cells #[.slice ah nh ch, .slice ad nd cd] 25)).heap.size a4 (nh + nd) c4 ((mhds pt of ds k ++ [pt k]) ++ dts ds (k + 1)) → Below (wr.alloc (.cells #[.slice ah nh ch, .slice ad nd cd] 25)).heap.size (wr.alloc (.cells #[.slice ah nh ch, .slice ad nd cd] 25)) W → Post (.returned (.tuple #[.slice a4 (nh + nd) c4, .int .i64 0])) W) := Lib.hid fun a4 c4 W hO hB => by
            have hz := HLW.out.size
            have hsz : wr.heap.size ≤ (wr.alloc (.cells #[.slice ah nh ch, .slice ad nd cd] 25)).heap.size := by simp
            rw [← HPOST.out, hc0, HRF.out hc0 rfl]
            exact ⟨a4, _, c4, rfl, hO.mono (by omega), (HLW.out.alloc hz _).trans (hB.mono (by omega))⟩
          clear HC HRF HERR hs hc0
          go_wp2_with (go_at_call 20; refine (HJ.out).mono ?_; rintro e w6 ⟨a6, c6, rfl, hO6, hB6⟩)
          exact HP.out a6 c6 w6 hO6 hB6
end Go.Proofs.Ytfmabpddacfbcaa

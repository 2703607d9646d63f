/-
  Slices of uint16s, appended.
-/
import Derived.Test.YtedhmoihlfjbdaaPaBlock
import Derived.Test.YtedhmoihlfjbdaaCovRep
namespace Go.Proofs.Ytedhmoihlfjbdaa
open Go.RowKit Go.Shelf
set_option linter.unusedVariables false
theorem info_s16 : (Try.prog.info? 52).map (fun i => (i.zero, i.size, i.bytes)) = some (some (Value.slice none 0 0), 1, 24) := by kernel_rfl
/-- append(x, y...) of slices of slices, x in a row of its own. -/
theorem append_s16s (w : World) (ty : TypeId) (base : Nat) (a : Option Addr) (n c : Nat) (xs : List Value) (h : w.ownsRow base 52 1 (.slice a n c) n xs) (a2 : Option Addr) (m c2 : Nat) (news : List Value) (hl : news.length = m)
    (hsrc : 0 < m → ∃ x, a2 = some x ∧ ∀ j u, news[j]? = some u → w.cell? (x.add j) = some u) (h1 : ∀ u ∈ news, u.oneCell' = true) (hlim : n + m ≤ 5000000000) (hbase : base ≤ w.heap.size) :
    ∃ a' c' w', (Builtin.append_ #[49, 49] ty #[.slice a n c, .slice a2 m c2]).run Try.prog w = .ok (.slice a' (n + m) c') w' ∧
      w'.ownsRow base 52 1 (.slice a' (n + m) c') (n + m) (xs ++ news) ∧ w.grownBy w' (a.map (·.block)) ∧ (∀ x, a' = some x → (∃ y, a = some y ∧ x.block = y.block) ∨ x.block = w.heap.size) := by
  obtain ⟨i0, hi0, hz0, hz1, hz2⟩ := info_parts info_s16
  cases a2 with
  | none =>
    have h0 : m = 0 := by
      rcases Nat.eq_zero_or_pos m with h' | h'
      · exact h'
      · obtain ⟨x, e, _⟩ := hsrc h'; cases e
    subst h0
    have hl0 : news = [] := List.eq_nil_of_length_eq_zero hl
    subst hl0
    rw [List.append_nil]
    refine ⟨a, c, w, ?_, h, grown_refl w _, fun x hx => .inl ⟨x, hx, rfl⟩⟩
    have hnc : n ≤ c := by
      rcases h.2 with ⟨hv, rfl⟩ | ⟨g, cap, cur, hv, _, _, hnc, _⟩
      · exact Nat.zero_le _
      · simp only [Value.slice.injEq, true_and] at hv; omega
    cases a <;> simp [Builtin.append_, run_underlying Try.underlying49, sizeOf, typeInfo, hi0, Builtin.lenOf, Builtin.firstCells, hnc, storeCells]
  | some x =>
    have hsrc' : ∀ j u, news[j]? = some u → w.cell? (x.add j) = some u := fun j u hu => by
      have hj : j < news.length := (List.getElem?_eq_some_iff.1 hu).1
      obtain ⟨y, e, hs⟩ := hsrc (by omega)
      cases e; exact hs j u hu
    obtain ⟨v', w', hr, ho, hg, hnil, hat⟩ := run_append_own_at (P := Try.prog) w base 49 ty 52 i0 (.slice none 0 0) 1 24 Try.underlying49 hi0 hz0 hz1 hz2 rfl (by decide) (.slice a n c) n _ h x m c2 news (by omega) hsrc' h1 (by unfold maxLen; omega) (by omega) hbase
    have hv : ∃ a' c', v' = .slice a' (n + m) c' := by
      rcases ho.2 with ⟨rfl, e⟩ | ⟨g, cap, cur, rfl, _⟩
      · exact ⟨none, 0, by rw [e]⟩
      · exact ⟨_, _, rfl⟩
    obtain ⟨a', c', rfl⟩ := hv
    have eb : ∀ (y : Option Addr) (k d : Nat), (Value.slice y k d).ownBlock = y.map (·.block) := fun y k d => by cases y <;> rfl
    rw [eb] at hg
    rw [eb, eb] at hat
    refine ⟨a', c', w', hr, ho, hg, fun y hy => ?_⟩
    subst hy
    rcases hat with e | e
    · cases a with
      | none => cases e
      | some z => exact .inl ⟨z, rfl, by simpa using e⟩
    · exact .inr (by simpa using e)
/-- One slice more. -/
theorem append_s16 (w : World) (ty : TypeId) (base : Nat) (a : Option Addr) (n c : Nat) (xs : List Value) (h : w.ownsRow base 52 1 (.slice a n c) n xs) (b : Option Addr) (m d : Nat) (hlim : n ≤ 1000000) (hbase : base ≤ w.heap.size) :
    ∃ a' c' w', (Builtin.append_ #[49, 49] ty #[.slice a n c, .slice (some ⟨w.heap.size, 0, none⟩) 1 1]).run Try.prog (w.alloc (.cells #[.slice b m d] 52)) = .ok (.slice a' (n + 1) c') w' ∧
      w'.ownsRow base 52 1 (.slice a' (n + 1) c') (n + 1) (xs ++ [.slice b m d]) ∧ (w.alloc (.cells #[.slice b m d] 52)).grownBy w' (a.map (·.block)) ∧ (∀ x, a' = some x → (∃ y, a = some y ∧ x.block = y.block) ∨ w.heap.size < x.block) := by
  obtain ⟨w0, hw0⟩ : ∃ w0, w.alloc (.cells #[.slice b m d] 52) = w0 := ⟨_, rfl⟩
  have hz : w0.heap.size = w.heap.size + 1 := by rw [← hw0]; simp
  have hnew : w0.heap[w.heap.size]? = some (.cells #[.slice b m d] 52 (0, 0)) := by rw [← hw0]; exact lit_new rfl
  have ho : w0.ownsRow base 52 1 (.slice a n c) n xs := by rw [← hw0]; exact h.alloc _
  rw [hw0]
  obtain ⟨a', c', w', h1, h2, h3, h4⟩ := append_s16s w0 ty base a n c xs ho (some ⟨w.heap.size, 0, none⟩) 1 1 [.slice b m d] rfl (fun _ => ⟨_, rfl, fun j u hu => by
    match j with
    | 0 =>
      rw [show (Addr.add ⟨w.heap.size, 0, none⟩ 0) = ⟨w.heap.size, 0, none⟩ from rfl, cell_of_row w0 _ 0 _ _ _ hnew]
      simpa using hu
    | j + 1 => simp at hu⟩) (fun u hu => by simp at hu; subst hu; rfl) (by omega) (by omega)
  refine ⟨a', c', w', h1, h2, h3, fun x hx => ?_⟩
  rcases h4 x hx with e | e
  · exact .inl e
  · right; omega
end Go.Proofs.Ytedhmoihlfjbdaa
namespace Go.Proofs.Ytedhmoihlfjbdaa
open Go.RowKit Go.Shelf
set_option linter.unusedVariables false
/-- n repairs in memory. -/
def RpAt (W : World) (a : Option Addr) (n : Nat) (h : Nat → Nat → Int) (B : Nat → Int) (X : Nat → Nat) (A : Nat → Option Addr) (N C : Nat → Nat) : Prop :=
  ∃ b o, ∀ i, i < n → a = some ⟨b, o, none⟩ ∧ b < W.heap.size ∧ Mk.Ok (X i) ∧ ∀ k, k < 12 → W.cell? ⟨b, o + i * 12 + k, none⟩ = ([.int .u8 (h i 0), .int .u8 (h i 1), .int .u8 (h i 2), .int .u8 (h i 3), .int .u8 (h i 4), .int .u8 (h i 5), .int .u8 (h i 6), .int .u8 (h i 7), .int .u16 (B i), .int .u64 (Mk.H (X i)), .int .u64 (Mk.L (X i)), .slice (A i) (N i) (C i)] : List Value)[k]?
theorem RpAt.below {W W' : World} {a : Option Addr} {n : Nat} {h : Nat → Nat → Int} {B : Nat → Int} {X : Nat → Nat} {A : Nat → Option Addr} {N C : Nat → Nat} (hr : RpAt W a n h B X A N C) (hb : Below W.heap.size W W') : RpAt W' a n h B X A N C := by
  obtain ⟨b, o, hr⟩ := hr
  refine ⟨b, o, fun i hi => ?_⟩
  obtain ⟨h1, h2, h3, h4⟩ := hr i hi
  exact ⟨h1, by have := hb.size; omega, h3, fun k hk => (hb.cell (p := ⟨b, o + i * 12 + k, none⟩) h2).trans (h4 k hk)⟩
/-- n lists of numbers, the k-th of m k numbers, each in a row of its own. -/
structure NsRow (W : World) (base : Nat) (a : Option Addr) (n c : Nat) (A : Nat → Option Addr) (C : Nat → Nat) (zs : Nat → List Int) : Prop where
  row : W.ownsRow base 52 1 (.slice a n c) n ((List.range n).map fun k => .slice (A k) (zs k).length (C k))
  own : ∀ k, k < n → W.ownsRow base 29 1 (.slice (A k) (zs k).length (C k)) (zs k).length ((zs k).map (.int .u16))
  ne : ∀ j, j < n → ∀ y z, a = some y → A j = some z → y.block ≠ z.block
/-- What Numbers leaves. -/
def NumbersOut (n : Nat) (B : Nat → Int) (X : Nat → Nat) (w : World) (e : Ending) (w' : World) : Prop :=
  ∃ a c A C, e = .returned (.slice a n c) ∧ NsRow w' w.heap.size a n c A C (fun k => Cv.seqs (B k) (X k)) ∧ Below w.heap.size w w'
theorem NsRow.below {W W' : World} {base : Nat} {a : Option Addr} {n c : Nat} {A : Nat → Option Addr} {C : Nat → Nat} {zs : Nat → List Int} (h : NsRow W base a n c A C zs) (hb : Below W.heap.size W W') : NsRow W' base a n c A C zs := by
  have hg := grown_of_below hb
  refine ⟨h.row.kept hg (by cases a with | none => exact .inl rfl | some y => exact .inr (fun e => by cases e)), fun k hk => (h.own k hk).kept hg ?_, h.ne⟩
  cases hA : A k with
  | none => exact .inl rfl
  | some y => exact .inr (fun e => by cases e)
theorem own_slice {W : World} {base : Nat} {e : TypeId} {v : Value} {n : Nat} {xs : List Value} (h : W.ownsRow base e 1 v n xs) : ∃ a c, v = .slice a n c := by
  rcases h.2 with ⟨rfl, rfl⟩ | ⟨g, cap, cur, rfl, _⟩
  · exact ⟨_, _, rfl⟩
  · exact ⟨_, _, rfl⟩
/-- One more list. -/
theorem NsRow.push {W : World} {base : Nat} {a : Option Addr} {k c : Nat} {A : Nat → Option Addr} {C : Nat → Nat} {zs : Nat → List Int} (h : NsRow W base a k c A C zs) (x : Option Addr) (y : Nat) (ho : W.ownsRow base 29 1 (.slice x (zs k).length y) (zs k).length ((zs k).map (.int .u16))) (hne : ∀ p q, a = some p → x = some q → p.block ≠ q.block) (ty : TypeId) (hk : k ≤ 1000000) (hbase : base ≤ W.heap.size) :
    ∃ a' c' W', (Builtin.append_ #[49, 49] ty #[.slice a k c, .slice (some ⟨W.heap.size, 0, none⟩) 1 1]).run Try.prog (W.alloc (.cells #[.slice x (zs k).length y] 52)) = .ok (.slice a' (k + 1) c') W' ∧ NsRow W' base a' (k + 1) c' (fun j => if j = k then x else A j) (fun j => if j = k then y else C j) zs ∧ Below base W W' := by
  have hl : (zs k).length = (zs k).length := rfl
  obtain ⟨a', c', W', hr, hO, hg, hn⟩ := append_s16 W ty base a k c _ h.row x (zs k).length y hk hbase
  have hb : Below base W W' := ((Below.refl _ W).alloc hbase _).grown hg (by simp; omega) (fun j e => by
    cases a with
    | none => cases e
    | some p => have := (h.row.lt _ rfl).1; simp at e; omega)
  have keep : ∀ (z : Option Addr) (m d : Nat) (xs : List Value), W.ownsRow base 29 1 (.slice z m d) m xs → (∀ p q, a = some p → z = some q → p.block ≠ q.block) → W'.ownsRow base 29 1 (.slice z m d) m xs := fun z m d xs hz hs => (hz.alloc _).kept hg (by
    cases z with
    | none => exact .inl rfl
    | some q => exact .inr (fun e => by
        cases a with
        | none => cases e
        | some p => simp [Value.ownBlock] at e; exact hs p q rfl rfl e.symm))
  have ltz : ∀ (z : Option Addr) (m d : Nat) (xs : List Value), W.ownsRow base 29 1 (.slice z m d) m xs → ∀ q, z = some q → q.block < W.heap.size := fun z m d xs hz q hq => by subst hq; exact (hz.lt _ rfl).2
  refine ⟨a', c', W', hr, ⟨?_, fun j hj => ?_, fun j hj p q hp hq => ?_⟩, hb⟩
  · rw [List.range_succ, List.map_append]
    rw [show (List.map (fun j => Value.slice (if j = k then x else A j) (zs j).length (if j = k then y else C j)) (List.range k)) = (List.map (fun j => Value.slice (A j) (zs j).length (C j)) (List.range k)) from List.map_congr_left fun j hj => by
      have := List.mem_range.1 hj
      rw [if_neg (by omega), if_neg (by omega)]]
    simpa using hO
  · by_cases e : j = k
    · subst e; simp only [if_true]; exact keep _ _ _ _ ho hne
    · simp only [if_neg e]; exact keep _ _ _ _ (h.own j (by omega)) (h.ne j (by omega))
  · by_cases e : j = k
    · subst e
      simp only [if_true] at hq
      rcases hn p hp with ⟨p', h1, h2⟩ | h1
      · rw [h2]; exact hne p' q h1 hq
      · have := ltz _ _ _ _ ho q hq; omega
    · simp only [if_neg e] at hq
      rcases hn p hp with ⟨p', h1, h2⟩ | h1
      · rw [h2]; exact h.ne j (by omega) p' q h1 hq
      · have := ltz _ _ _ _ (h.own j (by omega)) q hq; omega
set_option maxHeartbeats 1000000 in
set_option maxRecDepth 100000 in
theorem numbers_any (a : Option Addr) (n c : Nat) (h : Nat → Nat → Int) (B : Nat → Int) (X : Nat → Nat) (A : Nat → Option Addr) (N C : Nat → Nat) (w : World) (hr : RpAt w a n h B X A N C) (hn : n ≤ 1000000) :
    Calls Try.prog 23 #[.slice a n c] w (NumbersOut n B X w) := by
  obtain ⟨b, o, hrow⟩ := hr
  have HR := Lib.hid hrow; clear hrow
  go_enter Try.func23, Try.ntmps23
  go_wp2
  go_loopw [3, 8] (fun pv iv wr => ∃ (k : Nat) (a' : Option Addr) (c' : Nat) (A' : Nat → Option Addr) (C' : Nat → Nat), k ≤ n ∧ iv = .int .i64 k ∧ pv = .slice a' k c' ∧ Hid (NsRow wr w.heap.size a' k c' A' C' (fun k => Cv.seqs (B k) (X k)) ∧ Below w.heap.size w wr)) (fun _ iv _ => n - (intOf iv).toNat)
  case atStart => exact ⟨0, none, 0, fun _ => none, fun _ => 0, Nat.zero_le _, rfl, rfl, Lib.hid ⟨⟨World.ownsRow_nil _ _ _ _, fun j hj => by omega, fun j hj => by omega⟩, Below.refl _ _⟩⟩
  case round =>
    obtain ⟨k, a', c', A', C', hk, rfl, rfl, HK⟩ := hrel
    by_cases hlt : k < n
    · have hltz : (k : Int) < (n : Int) := by omega
      obtain ⟨rfl, hbl, hX, hc⟩ := HR.out k hlt
      have hcc : ∀ j, j < 12 → wr.cell? ⟨b, o + k * 12 + j, none⟩ = ([.int .u8 (h k 0), .int .u8 (h k 1), .int .u8 (h k 2), .int .u8 (h k 3), .int .u8 (h k 4), .int .u8 (h k 5), .int .u8 (h k 6), .int .u8 (h k 7), .int .u16 (B k), .int .u64 (Mk.H (X k)), .int .u64 (Mk.L (X k)), .slice (A k) (N k) (C k)] : List Value)[j]? := fun j hj => (HK.out.2.cell (p := ⟨b, o + k * 12 + j, none⟩) hbl).trans (hc j hj)
      have e0 : wr.cell? ⟨b, o + k * 12, none⟩ = some (.int .u8 (h k 0)) := hcc 0 (by omega)
      have e1 : wr.cell? ⟨b, o + k * 12 + 1, none⟩ = some (.int .u8 (h k 1)) := hcc 1 (by omega)
      have e2 : wr.cell? ⟨b, o + k * 12 + 2, none⟩ = some (.int .u8 (h k 2)) := hcc 2 (by omega)
      have e3 : wr.cell? ⟨b, o + k * 12 + 3, none⟩ = some (.int .u8 (h k 3)) := hcc 3 (by omega)
      have e4 : wr.cell? ⟨b, o + k * 12 + 4, none⟩ = some (.int .u8 (h k 4)) := hcc 4 (by omega)
      have e5 : wr.cell? ⟨b, o + k * 12 + 5, none⟩ = some (.int .u8 (h k 5)) := hcc 5 (by omega)
      have e6 : wr.cell? ⟨b, o + k * 12 + 6, none⟩ = some (.int .u8 (h k 6)) := hcc 6 (by omega)
      have e7 : wr.cell? ⟨b, o + k * 12 + 7, none⟩ = some (.int .u8 (h k 7)) := hcc 7 (by omega)
      have e8 : wr.cell? ⟨b, o + k * 12 + 8, none⟩ = some (.int .u16 (B k)) := hcc 8 (by omega)
      have e9 : wr.cell? ⟨b, o + k * 12 + 9, none⟩ = some (.int .u64 (Mk.H (X k))) := hcc 9 (by omega)
      have e10 : wr.cell? ⟨b, o + k * 12 + 10, none⟩ = some (.int .u64 (Mk.L (X k))) := hcc 10 (by omega)
      have e11 : wr.cell? ⟨b, o + k * 12 + 11, none⟩ = some (.slice (A k) (N k) (C k)) := hcc 11 (by omega)
      have HCR := Lib.hid fun W => crepair_any (h k) (B k) (X k) hX (A k) (N k) (C k) W
      clear hcc hc hX
      unfold rpc at HCR
      go_wp2_with fail
      refine (HCR.out _).mono ?_
      rintro e w2 ⟨v, rfl, hO, hB2⟩
      obtain ⟨x, y, rfl⟩ := own_slice hO
      have hl2 : (Cv.seqs (B k) (X k)).length = (Mk.bits (X k)).length := by simp [Cv.seqs]
      have hB02 : Below wr.heap.size wr w2 := ((Below.refl _ wr).alloc (Nat.le_refl _) _).trans (hB2.mono (by simp))
      have hrow2 := HK.out.1.below hB02
      have hlow2 := HK.out.2.trans (hB02.mono HK.out.2.size)
      rw [← hl2] at hO ⊢
      have hOm : w2.ownsRow w.heap.size 29 1 (.slice x (Cv.seqs (B k) (X k)).length y) (Cv.seqs (B k) (X k)).length ((Cv.seqs (B k) (X k)).map (.int .u16)) := by
        have h := hO.mono (base' := w.heap.size) (by have := HK.out.2.size; simp; omega)
        exact h
      obtain ⟨a5, c5, w5, hrun, hN5, hB5⟩ := hrow2.push x y hOm (fun p q' hp hq => by
        subst hp hq
        have h1 := (HK.out.1.row.lt _ rfl).2
        have h2 := (hO.lt _ rfl).1
        simp at h2
        omega) 49 (by omega) hlow2.size
      have HRUN := Lib.hid hrun; have HN := Lib.hid (And.intro hN5 (hlow2.trans hB5))
      clear hl2 hB02 hrow2 hlow2 hOm hrun hN5 hB5 hO hB2 HCR HK
      generalize (Cv.seqs (B k) (X k)).length = nk at *
      go_wp2_with (at_builtin; refine Lib.wpList_append_run _ rfl (.tmp 12) (.tmp 15) 49 49 rfl (.slice a' k c') _ (by rfl) (by rfl) _ _ HRUN.out ?_)
      go_roundw
      case rel => exact ⟨k + 1, a5, c5, _, _, by omega, by go_num, rfl, HN⟩
      case measure => simp [intOf]; omega
    · obtain rfl : k = n := by omega
      go_wp2_with fail
      exact bodyPost_ret (v := .slice a' k c') (by simp [results, Try.results23, go_sem]) rfl ⟨a', c', A', C', rfl, HK.out.1, HK.out.2⟩
end Go.Proofs.Ytedhmoihlfjbdaa

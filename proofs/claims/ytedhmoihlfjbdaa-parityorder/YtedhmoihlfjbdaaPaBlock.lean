/-
  A slice of repairs in rows of its own, and one more appended (IbRow's text, turned).
-/
import Derived.Test.YtedhmoihlfjbdaaPaSome
import Derived.Test.YtedhmoihlfjbdaaRtpEnc
namespace Go.Proofs.Ytedhmoihlfjbdaa
open Go.RowKit Go.Shelf
set_option linter.unusedVariables false
def rcells (h : Nat → Nat → Int) (B : Nat → Int) (X : Nat → Nat) (A : Nat → Option Addr) (bs : Nat → List Int) (C : Nat → Nat) : Nat → List Value
  | 0 => []
  | i + 1 => rcells h B X A bs C i ++ [.int .u8 (h i 0), .int .u8 (h i 1), .int .u8 (h i 2), .int .u8 (h i 3), .int .u8 (h i 4), .int .u8 (h i 5), .int .u8 (h i 6), .int .u8 (h i 7), .int .u16 (B i), .int .u64 (Mk.H (X i)), .int .u64 (Mk.L (X i)), .slice (A i) (bs i).length (C i)]
theorem rcells_len (h : Nat → Nat → Int) (B : Nat → Int) (X : Nat → Nat) (A : Nat → Option Addr) (bs : Nat → List Int) (C : Nat → Nat) : ∀ i, (rcells h B X A bs C i).length = i * 12
  | 0 => rfl
  | i + 1 => by simp [rcells, rcells_len h B X A bs C i]; omega
theorem rcells_congr {h h' : Nat → Nat → Int} {B B' : Nat → Int} {X X' : Nat → Nat} {A A' : Nat → Option Addr} {bs bs' : Nat → List Int} {C C' : Nat → Nat} : ∀ i, (∀ j, j < i → h' j = h j ∧ B' j = B j ∧ X' j = X j ∧ A' j = A j ∧ bs' j = bs j ∧ C' j = C j) → rcells h' B' X' A' bs' C' i = rcells h B X A bs C i
  | 0, _ => rfl
  | i + 1, hh => by
    obtain ⟨h0, hb, hx, h1, h2, h3⟩ := hh i (by omega)
    simp only [rcells]
    rw [rcells_congr i (fun j hj => hh j (by omega)), h0, hb, hx, h1, h2, h3]
theorem rcells_at (h : Nat → Nat → Int) (B : Nat → Int) (X : Nat → Nat) (A : Nat → Option Addr) (bs : Nat → List Int) (C : Nat → Nat) : ∀ i j, j < i → ∀ k, k < 12 → (rcells h B X A bs C i)[j * 12 + k]? = ([.int .u8 (h j 0), .int .u8 (h j 1), .int .u8 (h j 2), .int .u8 (h j 3), .int .u8 (h j 4), .int .u8 (h j 5), .int .u8 (h j 6), .int .u8 (h j 7), .int .u16 (B j), .int .u64 (Mk.H (X j)), .int .u64 (Mk.L (X j)), .slice (A j) (bs j).length (C j)] : List Value)[k]?
  | 0, j, hj, _, _ => by omega
  | i + 1, j, hj, k, hk => by
    have hl := rcells_len h B X A bs C i
    by_cases e : j = i
    · subst e
      simp only [rcells]
      rw [List.getElem?_append_right (by omega), hl, show j * 12 + k - j * 12 = k from by omega]
    · simp only [rcells]
      rw [List.getElem?_append_left (by omega)]
      exact rcells_at h B X A bs C i j (by omega) k hk
/-- i repairs, all in memory from base on. -/
structure WRow (W : World) (base : Nat) (a : Option Addr) (i c : Nat) (h : Nat → Nat → Int) (B : Nat → Int) (X : Nat → Nat) (A : Nat → Option Addr) (bs : Nat → List Int) (C : Nat → Nat) : Prop where
  row : W.ownsRow base 32 12 (.slice a i c) i (rcells h B X A bs C i)
  own : ∀ j, j < i → Own W base (A j) (bs j).length (C j) (bs j)
  ne : ∀ j, j < i → ∀ y z, a = some y → A j = some z → y.block ≠ z.block
theorem WRow.blk {W : World} {base : Nat} {a : Option Addr} {i c : Nat} {h : Nat → Nat → Int} {B : Nat → Int} {X : Nat → Nat} {A : Nat → Option Addr} {bs : Nat → List Int} {C : Nat → Nat} (hr : WRow W base a i c h B X A bs C) : ∀ x, a = some x → base ≤ x.block ∧ x.block < W.heap.size := fun x hx => by
  subst hx; exact hr.row.lt x.block rfl
theorem WRow.keptw {W W' : World} {base : Nat} {a : Option Addr} {i c : Nat} {h : Nat → Nat → Int} {B : Nat → Int} {X : Nat → Nat} {A : Nat → Option Addr} {bs : Nat → List Int} {C : Nat → Nat} {r : Option Nat} (hr : WRow W base a i c h B X A bs C) (hg : W.grownBy W' r) (h1 : ∀ y, a = some y → r ≠ some y.block) (h2 : ∀ j, j < i → ∀ z, A j = some z → r ≠ some z.block) : WRow W' base a i c h B X A bs C :=
  ⟨hr.row.kept hg (by
    cases a with
    | none => exact .inl rfl
    | some y => exact .inr (by
        have := h1 y rfl
        simpa [Value.ownBlock] using fun e => this e.symm)), fun j hj => (hr.own j hj).kept hg (h2 j hj), hr.ne⟩
theorem WRow.below {W W' : World} {base : Nat} {a : Option Addr} {i c : Nat} {h : Nat → Nat → Int} {B : Nat → Int} {X : Nat → Nat} {A : Nat → Option Addr} {bs : Nat → List Int} {C : Nat → Nat} (hr : WRow W base a i c h B X A bs C) (hb : Below W.heap.size W W') : WRow W' base a i c h B X A bs C :=
  hr.keptw (r := none) ⟨hb.os, hb.tape, hb.output, hb.size, fun j hj _ => hb.block j hj⟩ (fun _ _ e => by cases e) (fun _ _ _ _ e => by cases e)
theorem WRow.nil (W : World) (base : Nat) (a : Option Addr) (c : Nat) (h : Nat → Nat → Int) (B : Nat → Int) (X : Nat → Nat) (A : Nat → Option Addr) (bs : Nat → List Int) (C : Nat → Nat) (hr : W.ownsRow base 32 12 (.slice a 0 c) 0 []) : WRow W base a 0 c h B X A bs C :=
  ⟨hr, fun j hj => by omega, fun j hj => by omega⟩
theorem info_rep : (Try.prog.info? 32).map (fun i => (i.zero, i.size, i.bytes)) = some (some (Value.agg #[.int .u8 0, .int .u8 0, .int .u8 0, .int .u8 0, .int .u8 0, .int .u8 0, .int .u8 0, .int .u8 0, .int .u16 0, .int .u64 0, .int .u64 0, .slice none 0 0]), 12, 56) := by kernel_rfl
theorem append_rep (w : World) (ty : TypeId) (base : Nat) (a : Option Addr) (i c : Nat) (h : Nat → Nat → Int) (B : Nat → Int) (X : Nat → Nat) (A : Nat → Option Addr) (bs : Nat → List Int) (C : Nat → Nat) (hr : WRow w base a i c h B X A bs C) (hO : Own w base (A i) (bs i).length (C i) (bs i)) (hsep : ∀ y z, a = some y → A i = some z → y.block ≠ z.block) (hi : i ≤ 1000000) (hbase : base ≤ w.heap.size) :
    ∃ a2 c2 w2, (Builtin.append_ #[44, 44] ty #[.slice a i c, .slice (some ⟨w.heap.size, 0, none⟩) 1 1]).run Try.prog (w.alloc (.cells #[.int .u8 (h i 0), .int .u8 (h i 1), .int .u8 (h i 2), .int .u8 (h i 3), .int .u8 (h i 4), .int .u8 (h i 5), .int .u8 (h i 6), .int .u8 (h i 7), .int .u16 (B i), .int .u64 (Mk.H (X i)), .int .u64 (Mk.L (X i)), .slice (A i) (bs i).length (C i)] 32)) = .ok (.slice a2 (i + 1) c2) w2 ∧
      WRow w2 base a2 (i + 1) c2 h B X A bs C ∧ (w.alloc (.cells #[.int .u8 (h i 0), .int .u8 (h i 1), .int .u8 (h i 2), .int .u8 (h i 3), .int .u8 (h i 4), .int .u8 (h i 5), .int .u8 (h i 6), .int .u8 (h i 7), .int .u16 (B i), .int .u64 (Mk.H (X i)), .int .u64 (Mk.L (X i)), .slice (A i) (bs i).length (C i)] 32)).grownBy w2 (a.map (·.block)) ∧ (∀ x, a2 = some x → (∃ y, a = some y ∧ x.block = y.block) ∨ w.heap.size < x.block) := by
  obtain ⟨i0, hi0, hz0, hz1, hz2⟩ := info_parts info_rep
  obtain ⟨ho, he, hne0⟩ := hr
  obtain ⟨w0, hw0⟩ : ∃ w0, w.alloc (.cells #[.int .u8 (h i 0), .int .u8 (h i 1), .int .u8 (h i 2), .int .u8 (h i 3), .int .u8 (h i 4), .int .u8 (h i 5), .int .u8 (h i 6), .int .u8 (h i 7), .int .u16 (B i), .int .u64 (Mk.H (X i)), .int .u64 (Mk.L (X i)), .slice (A i) (bs i).length (C i)] 32) = w0 := ⟨_, rfl⟩
  have hB : Below w.heap.size w w0 := by rw [← hw0]; exact (Below.refl _ w).alloc (Nat.le_refl _) _
  have hnew : w0.heap[w.heap.size]? = some (.cells #[.int .u8 (h i 0), .int .u8 (h i 1), .int .u8 (h i 2), .int .u8 (h i 3), .int .u8 (h i 4), .int .u8 (h i 5), .int .u8 (h i 6), .int .u8 (h i 7), .int .u16 (B i), .int .u64 (Mk.H (X i)), .int .u64 (Mk.L (X i)), .slice (A i) (bs i).length (C i)] 32 (0, 0)) := by rw [← hw0]; exact lit_new rfl
  have hz0' : w0.heap.size = w.heap.size + 1 := by rw [← hw0]; simp
  have ho0 : w0.ownsRow base 32 12 (.slice a i c) i (rcells h B X A bs C i) := by rw [← hw0]; exact ho.alloc _
  have hOj : ∀ j, j < i → Own w0 base (A j) (bs j).length (C j) (bs j) := fun j hj => (he j hj).below hB
  have hOn : Own w0 base (A i) (bs i).length (C i) (bs i) := hO.below hB
  rw [hw0]
  have hsrc : ∀ j u, ([.int .u8 (h i 0), .int .u8 (h i 1), .int .u8 (h i 2), .int .u8 (h i 3), .int .u8 (h i 4), .int .u8 (h i 5), .int .u8 (h i 6), .int .u8 (h i 7), .int .u16 (B i), .int .u64 (Mk.H (X i)), .int .u64 (Mk.L (X i)), .slice (A i) (bs i).length (C i)] : List Value)[j]? = some u → w0.cell? ((⟨w.heap.size, 0, none⟩ : Addr).add j) = some u := fun j u hu => by
    rw [show (Addr.add ⟨w.heap.size, 0, none⟩ j) = ⟨w.heap.size, j, none⟩ from by unfold Addr.add; split <;> simp_all, cell_of_row w0 _ j _ _ _ hnew]
    simpa using hu
  obtain ⟨v', w2, hr, ho2, hg, hnil, hat⟩ := run_append_own_at (P := Try.prog) w0 base 44 ty 32 i0 _ 12 56 Try.underlying44 hi0 hz0 hz1 hz2 rfl (by decide) (.slice a i c) i _ ho0 ⟨w.heap.size, 0, none⟩ 1 1 _ rfl hsrc (by intro u hu; simp at hu; rcases hu with rfl | rfl | rfl | rfl | rfl | rfl | rfl | rfl | rfl | rfl | rfl | rfl <;> rfl) (by unfold maxLen; omega) (by omega) (by omega)
  have hv : ∃ g c2, v' = .slice (some ⟨g, 0, none⟩) (i + 1) c2 ∧ base ≤ g := by
    rcases ho2.2 with ⟨rfl, e⟩ | ⟨g, cap, cur, rfl, hb, _⟩
    · omega
    · exact ⟨_, _, rfl, hb⟩
  obtain ⟨g, c2, rfl, hgb⟩ := hv
  have hga : (Value.slice a i c).ownBlock = a.map (·.block) := by cases a <;> rfl
  rw [hga] at hg hat
  have hne : ∀ (z : Addr), z.block < w.heap.size → (∀ y, a = some y → y.block ≠ z.block) → g ≠ z.block := fun z hz hs => by
    rcases hat with e | e
    · cases a with
      | none => simp [Value.ownBlock] at e
      | some y => have := hs y rfl; simp [Value.ownBlock] at e; omega
    · simp [Value.ownBlock] at e; omega
  have hk : ∀ (b : Option Addr) (n' c3 : Nat) (l : List Int), Own w0 base b n' c3 l → (∀ y z, a = some y → b = some z → y.block ≠ z.block) → Own w2 base b n' c3 l := fun b n' c3 l hb hs => hb.kept hg fun y hy e => by
    cases a with
    | none => simp at e
    | some y' => exact hs y' y rfl hy (by simpa using e)
  refine ⟨some ⟨g, 0, none⟩, c2, w2, hr, ⟨ho2, fun j hj => ?_, fun j hj y z hy hz => ?_⟩, hg, fun x hx => ?_⟩
  · by_cases e : j = i
    · subst e; exact hk _ _ _ _ hOn hsep
    · exact hk _ _ _ _ (hOj j (by omega)) (hne0 j (by omega))
  · cases hy
    by_cases e : j = i
    · subst e
      exact hne z ((hO.blk z hz).2) fun y' hy' => hsep y' z hy' hz
    · exact hne z ((he j (by omega)).blk z hz).2 fun y' hy' => hne0 j (by omega) y' z hy' hz
  · cases hx
    rcases hat with e | e
    · cases a with
      | none => simp [Value.ownBlock] at e
      | some y => left; exact ⟨y, rfl, by simp [Value.ownBlock] at e; exact e⟩
    · right; simp [Value.ownBlock] at e; show w.heap.size < g; omega
end Go.Proofs.Ytedhmoihlfjbdaa
namespace Go.Proofs.Ytedhmoihlfjbdaa
open Go.RowKit Go.Shelf
set_option linter.unusedVariables false
/-- A shape in memory: n lists of places. -/
structure ShAt (W : World) (a : Option Addr) (n : Nat) (zss : List (List Int)) : Prop where
  count : zss.length = n
  row : ∃ b o, ∃ (av : Nat → Option Addr) (cv : Nat → Nat), ∀ k, k < n → a = some ⟨b, o, none⟩ ∧ b < W.heap.size ∧ W.cell? ⟨b, o + k, none⟩ = some (.slice (av k) (zss.getD k []).length (cv k)) ∧ Ints (av k) (zss.getD k []).length (zss.getD k []) W ∧ (zss.getD k []).length ≤ 1000000
theorem ShAt.below {W W' : World} {a : Option Addr} {n : Nat} {zss : List (List Int)} (h : ShAt W a n zss) (hb : Below W.heap.size W W') : ShAt W' a n zss := by
  obtain ⟨b, o, av, cv, hr⟩ := h.row
  refine ⟨h.count, b, o, av, cv, fun k hk => ?_⟩
  obtain ⟨h1, h2, h3, h4, h5⟩ := hr k hk
  exact ⟨h1, by have := hb.size; omega, (hb.cell (p := ⟨b, o + k, none⟩) h2).trans h3, h4.below hb, h5⟩
/-- The packets of one list of a shape. -/
def Pa.pk (ls : List (List Int)) (zss : List (List Int)) (k : Nat) : List (List Int) := Pa.pick ls (zss.getD k []) (zss.getD k []).length
/-- Its error. -/
def Pa.scode (ls : List (List Int)) (zss : List (List Int)) (k : Nat) : Int := if Pa.wok ls.length (zss.getD k []) (zss.getD k []).length = false then 1 else Pa.code (Pa.pk ls zss k)
/-- The first error of the first k lists. -/
def Pa.bcode (ls : List (List Int)) (zss : List (List Int)) : Nat → Int | 0 => 0 | k + 1 => if Pa.bcode ls zss k ≠ 0 then Pa.bcode ls zss k else Pa.scode ls zss k
theorem Pa.bcode_stay {ls zss : List (List Int)} {k n : Nat} (h : k ≤ n) (he : Pa.bcode ls zss k ≠ 0) : Pa.bcode ls zss n = Pa.bcode ls zss k := by
  induction n with
  | zero => obtain rfl : k = 0 := by omega
            rfl
  | succ n ih =>
    by_cases hk : k = n + 1
    · rw [hk]
    · have := ih (by omega)
      show (if Pa.bcode ls zss n ≠ 0 then Pa.bcode ls zss n else Pa.scode ls zss n) = Pa.bcode ls zss k
      rw [this, if_pos he]
/-- The fields of the k-th repair. -/
def Pa.bh (ls zss : List (List Int)) (k j : Nat) : Int := (Pa.head (Pa.pk ls zss k)).getD j 0
def Pa.bb (ls zss : List (List Int)) (k : Nat) : Int := Pa.base (Pa.pk ls zss k)
def Pa.bx (ls zss : List (List Int)) (k : Nat) : Nat := Pa.X (Pa.pk ls zss k)
def Pa.bd (ls zss : List (List Int)) (k : Nat) : List Int := Pa.body (Pa.pk ls zss k)
/-- What Block leaves. -/
def BlockOut (ls zss : List (List Int)) (n : Nat) (w : World) (e : Ending) (w' : World) : Prop :=
  (Pa.bcode ls zss n ≠ 0 → e = .returned (.tuple #[.slice none 0 0, .int .i64 (Pa.bcode ls zss n)]) ∧ Below w.heap.size w w') ∧
  (Pa.bcode ls zss n = 0 → ∃ a c A C, e = .returned (.tuple #[.slice a n c, .int .i64 0]) ∧ WRow w' w.heap.size a n c (Pa.bh ls zss) (Pa.bb ls zss) (Pa.bx ls zss) A (Pa.bd ls zss) C ∧ Below w.heap.size w w')
theorem SomeOut.rep {ls zss : List (List Int)} {k : Nat} {w w' : World} {e : Ending} (h : SomeOut ls (zss.getD k []) (zss.getD k []).length w e w') :
    ∃ q BB X ab nb cb, e = .returned (.tuple #[rpc q BB X ab nb cb, .int .i64 (Pa.scode ls zss k)]) ∧ Below w.heap.size w w' ∧ (Pa.scode ls zss k = 0 → (∀ j, q j = Pa.bh ls zss k j) ∧ BB = Pa.bb ls zss k ∧ X = Pa.bx ls zss k ∧ nb = (Pa.bd ls zss k).length ∧ Own w' w.heap.size ab nb cb (Pa.bd ls zss k)) := by
  cases hw : Pa.wok ls.length (zss.getD k []) (zss.getD k []).length with
  | false =>
    obtain ⟨rfl, hb⟩ := h.1 hw
    have hs : Pa.scode ls zss k = 1 := by unfold Pa.scode; rw [if_pos hw]
    exact ⟨_, _, _, _, _, _, by rw [hs], hb, fun h' => by rw [hs] at h'; cases h'⟩
  | true =>
    obtain ⟨q, BB, X, ab, nb, cb, rfl, hb, hr⟩ := (h.2 hw).rep
    have hs : Pa.scode ls zss k = Pa.code (Pa.pk ls zss k) := by unfold Pa.scode; rw [if_neg (by rw [hw]; decide)]
    exact ⟨q, BB, X, ab, nb, cb, by rw [hs]; rfl, hb, fun h' => hr.good (hs.symm.trans h')⟩
def upd {α : Type} (f : Nat → α) (k : Nat) (x : α) : Nat → α := fun j => if j = k then x else f j
theorem upd_at {α : Type} (f : Nat → α) (k : Nat) (x : α) : upd f k x k = x := by unfold upd; rw [if_pos rfl]
theorem upd_ne {α : Type} (f : Nat → α) {k j : Nat} (x : α) (h : j ≠ k) : upd f k x j = f j := by unfold upd; rw [if_neg h]
theorem WRow.upd' {W : World} {base : Nat} {a : Option Addr} {k c : Nat} {h : Nat → Nat → Int} {B : Nat → Int} {X : Nat → Nat} {A : Nat → Option Addr} {bs : Nat → List Int} {C : Nat → Nat} (hr : WRow W base a k c h B X A bs C) (x : Option Addr) (y : Nat) : WRow W base a k c h B X (upd A k x) bs (upd C k y) := by
  refine ⟨?_, fun j hj => ?_, fun j hj => ?_⟩
  · rw [rcells_congr k (fun j hj => ⟨rfl, rfl, rfl, upd_ne A x (by omega), rfl, upd_ne C y (by omega)⟩)]; exact hr.row
  · rw [upd_ne A x (by omega), upd_ne C y (by omega)]; exact hr.own j hj
  · rw [upd_ne A x (by omega)]; exact hr.ne j hj
/-- In front of round k. -/
structure BKS (w : World) (ls zss : List (List Int)) (k : Nat) (a : Option Addr) (c : Nat) (A : Nat → Option Addr) (C : Nat → Nat) (W : World) : Prop where
  ok : Pa.bcode ls zss k = 0
  row : WRow W w.heap.size a k c (Pa.bh ls zss) (Pa.bb ls zss) (Pa.bx ls zss) A (Pa.bd ls zss) C
  low : Below w.heap.size w W
set_option maxHeartbeats 1000000 in
set_option maxRecDepth 100000 in
theorem block_any (a : Option Addr) (len c : Nat) (ls : List (List Int)) (aw : Option Addr) (n cw : Nat) (zss : List (List Int)) (w : World) (h : PksAt w a len ls) (hlen : len ≤ 1000000000) (hz : ShAt w aw n zss) (hn : n ≤ 1000000) :
    Calls Try.prog 21 #[.slice a len c, .slice aw n cw] w (BlockOut ls zss n w) := by
  have HP := Lib.hid h; clear h
  obtain ⟨b, o, av, cv, hrow⟩ := hz.row
  have HROW := Lib.hid hrow; clear hrow hz
  go_enter Try.func21, Try.ntmps21
  go_wp2
  go_loopw [6, 13] (fun pv iv wr => ∃ (k : Nat) (a' : Option Addr) (c' : Nat) (A : Nat → Option Addr) (C : Nat → Nat), k ≤ n ∧ iv = .int .i64 k ∧ pv = .slice a' k c' ∧ Hid (BKS w ls zss k a' c' A C wr)) (fun _ iv _ => n - (intOf iv).toNat)
  case atStart => exact ⟨0, none, 0, fun _ => none, fun _ => 0, Nat.zero_le _, rfl, rfl, Lib.hid ⟨rfl, WRow.nil _ _ _ _ _ _ _ _ _ _ (World.ownsRow_nil _ _ _ _), Below.refl _ _⟩⟩
  case round =>
    obtain ⟨k, a', c', A, C, hk, rfl, rfl, HK⟩ := hrel
    by_cases hlt : k < n
    · have hltz : (k : Int) < (n : Int) := by omega
      obtain ⟨rfl, hbl, hcell, hints, hml⟩ := HROW.out k hlt
      have e1 : wr.cell? ⟨b, o + k, none⟩ = some (.slice (av k) (zss.getD k []).length (cv k)) := (HK.out.low.cell (p := ⟨b, o + k, none⟩) hbl).trans hcell
      have hsome := some_any a len c ls (av k) (zss.getD k []).length (cv k) (zss.getD k []) wr (HP.out.below HK.out.low) hlen (hints.below HK.out.low) (Nat.le_refl _) hml
      have hsome' : Calls Try.prog 17 #[.slice a len c, .slice (av k) (zss.getD k []).length (cv k)] wr (fun e w' => ∃ q BB X ab nb cb, e = .returned (.tuple #[rpc q BB X ab nb cb, .int .i64 (Pa.scode ls zss k)]) ∧ Below wr.heap.size wr w' ∧ (Pa.scode ls zss k = 0 → (∀ j, q j = Pa.bh ls zss k j) ∧ BB = Pa.bb ls zss k ∧ X = Pa.bx ls zss k ∧ nb = (Pa.bd ls zss k).length ∧ Own w' wr.heap.size ab nb cb (Pa.bd ls zss k))) := hsome.mono fun e w' h => h.rep
      have HSO := Lib.hid hsome'
      have hbc : Pa.bcode ls zss (k + 1) = Pa.scode ls zss k := by
        show (if Pa.bcode ls zss k ≠ 0 then Pa.bcode ls zss k else Pa.scode ls zss k) = _
        rw [HK.out.ok, if_neg (by simp)]
      have HBC := Lib.hid hbc
      clear hsome hsome' hbc hcell hints
      generalize hzl : (zss.getD k []).length = zl at *
      clear hzl hml
      go_wp2_with fail
      refine HSO.out.mono ?_
      rintro e w2 ⟨q, BB, XX, ab, nb, cb, rfl, hB2, hgood⟩
      clear HSO
      have hb2 := HK.out.low.trans (hB2.mono HK.out.low.size)
      by_cases hs : Pa.scode ls zss k = 0
      · obtain ⟨hq, rfl, rfl, rfl, hO⟩ := hgood hs
        have hsz0 := HK.out.low.size
        obtain ⟨w3, hw3⟩ : ∃ u, w2.alloc (.cells #[.int .u8 (Pa.bh ls zss k 0), .int .u8 (Pa.bh ls zss k 1), .int .u8 (Pa.bh ls zss k 2), .int .u8 (Pa.bh ls zss k 3), .int .u8 (Pa.bh ls zss k 4), .int .u8 (Pa.bh ls zss k 5), .int .u8 (Pa.bh ls zss k 6), .int .u8 (Pa.bh ls zss k 7), .int .u16 (Pa.bb ls zss k), .int .u64 (Mk.H (Pa.bx ls zss k)), .int .u64 (Mk.L (Pa.bx ls zss k)), .slice ab (Pa.bd ls zss k).length cb] 32) = u := ⟨_, rfl⟩
        have h23 : Below w2.heap.size w2 w3 := by rw [← hw3]; exact (Below.refl _ w2).alloc (Nat.le_refl _) _
        have hz3 : w3.heap.size = w2.heap.size + 1 := by rw [← hw3]; simp
        have hrow3 := ((HK.out.row.below hB2).below h23).upd' ab cb
        have hO3 : Own w3 w.heap.size (upd A k ab k) (Pa.bd ls zss k).length (upd C k cb k) (Pa.bd ls zss k) := by rw [upd_at, upd_at]; exact (hO.below h23).mono hsz0
        have hblk := HK.out.row.blk
        obtain ⟨a5, c5, w5, hrun, hrow5, hg5, hn5⟩ := append_rep w3 44 w.heap.size a' k c' _ _ _ _ _ _ hrow3 hO3 (fun y z hy hz => by rw [upd_at] at hz; have := (hblk y hy).2; have := (hO.blk z hz).1; omega) (by omega) (by have := hB2.size; omega)
        rw [upd_at, upd_at] at hrun hg5
        have hlow5 : Below w.heap.size w w5 := by
          have h3 := hb2.trans (h23.mono hb2.size)
          have h4 := h3.alloc h3.size (.cells #[.int .u8 (Pa.bh ls zss k 0), .int .u8 (Pa.bh ls zss k 1), .int .u8 (Pa.bh ls zss k 2), .int .u8 (Pa.bh ls zss k 3), .int .u8 (Pa.bh ls zss k 4), .int .u8 (Pa.bh ls zss k 5), .int .u8 (Pa.bh ls zss k 6), .int .u8 (Pa.bh ls zss k 7), .int .u16 (Pa.bb ls zss k), .int .u64 (Mk.H (Pa.bx ls zss k)), .int .u64 (Mk.L (Pa.bx ls zss k)), .slice ab (Pa.bd ls zss k).length cb] 32)
          exact h4.grown hg5 h4.size (fun j e => by
            cases a' with
            | none => cases e
            | some y => have := (hblk y rfl).1; simp at e; omega)
        rw [hz3, ← hw3] at hrun
        have HRUN := Lib.hid hrun; have HN := Lib.hid (show BKS w ls zss (k + 1) a5 c5 (upd A k ab) (upd C k cb) w5 from ⟨HBC.out.trans hs, hrow5, hlow5⟩)
        have hrpc : rpc q (Pa.bb ls zss k) (Pa.bx ls zss k) ab (Pa.bd ls zss k).length cb = .agg #[.int .u8 (Pa.bh ls zss k 0), .int .u8 (Pa.bh ls zss k 1), .int .u8 (Pa.bh ls zss k 2), .int .u8 (Pa.bh ls zss k 3), .int .u8 (Pa.bh ls zss k 4), .int .u8 (Pa.bh ls zss k 5), .int .u8 (Pa.bh ls zss k 6), .int .u8 (Pa.bh ls zss k 7), .int .u16 (Pa.bb ls zss k), .int .u64 (Mk.H (Pa.bx ls zss k)), .int .u64 (Mk.L (Pa.bx ls zss k)), .slice ab (Pa.bd ls zss k).length cb] := by unfold rpc; simp only [hq]
        rw [hrpc, hs]
        clear hrpc hs hq hgood hO hw3 h23 hz3 hrow3 hO3 hblk hrun hrow5 hg5 hn5 hlow5 hB2 hb2 HK HBC
        generalize (Pa.bd ls zss k).length = nb at *
        generalize Pa.bh ls zss k 0 = h0 at *
        generalize Pa.bh ls zss k 1 = h1 at *
        generalize Pa.bh ls zss k 2 = h2 at *
        generalize Pa.bh ls zss k 3 = h3 at *
        generalize Pa.bh ls zss k 4 = h4 at *
        generalize Pa.bh ls zss k 5 = h5 at *
        generalize Pa.bh ls zss k 6 = h6 at *
        generalize Pa.bh ls zss k 7 = h7 at *
        generalize Pa.bb ls zss k = bbk at *
        generalize ((Mk.H (Pa.bx ls zss k) : Nat) : Int) = bxh at *
        generalize ((Mk.L (Pa.bx ls zss k) : Nat) : Int) = bxl at *
        go_wp2_with (at_builtin; refine Lib.wpList_append_run _ rfl (.tmp 26) (.tmp 28) 44 44 rfl (.slice a' k c') _ (by rfl) (by rfl) _ _ HRUN.out ?_)
        go_roundw
        case rel => exact ⟨k + 1, a5, c5, _, _, by omega, by go_num, rfl, HN⟩
        case measure => simp [intOf]; omega
      · have hsb : (Pa.scode ls zss k == 0) = false := beq_eq_false_iff_ne.2 hs
        have hbn : Pa.bcode ls zss n = Pa.scode ls zss k := (Pa.bcode_stay (k := k + 1) (by omega) (by rw [HBC.out]; exact hs)).trans HBC.out
        have HBN := Lib.hid hbn; have HB2 := Lib.hid hb2; have HS := Lib.hid hs
        clear hbn hb2 hs hgood hB2 HBC
        generalize Pa.scode ls zss k = g at *
        unfold rpc
        go_wp2_with fail
        refine bodyPost_ret (v := .tuple #[.slice none 0 0, .int .i64 g]) (by simp [results, Try.results21, go_sem]) rfl ⟨fun _ => ⟨by rw [HBN.out], HB2.out.alloc HB2.out.size _⟩, fun h => absurd (HBN.out.symm.trans h) HS.out⟩
    · obtain rfl : k = n := by omega
      go_wp2_with fail
      exact bodyPost_ret (v := .tuple #[.slice a' k c', .int .i64 0]) (by simp [results, Try.results21, go_sem]) rfl ⟨fun h => absurd HK.out.ok h, fun _ => ⟨a', c', A, C, rfl, HK.out.row, HK.out.low⟩⟩
end Go.Proofs.Ytedhmoihlfjbdaa

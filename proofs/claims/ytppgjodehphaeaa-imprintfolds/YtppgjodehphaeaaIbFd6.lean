/-
  ImprintFolds: the plain side.
-/
import Derived.Test.YtppgjodehphaeaaIbAlPlain
import Derived.Test.YtppgjodehphaeaaIbFdRows
import Derived.Test.YtppgjodehphaeaaIbFd0
import Derived.Test.YtppgjodehphaeaaIbPkt
namespace Go.Proofs.Ytppgjodehphaeaa
open Go.RowKit Go.Shelf
set_option linter.unusedVariables false
/-- Byte j of the first k lists held against each other. -/
def xk (ls : List (List Int)) (k j : Nat) : Int := (Str.all [] (ls.take k)).getD j 0
theorem xk_succ (ls : List (List Int)) (k j : Nat) (h : k < ls.length) : xk ls (k + 1) j = Str.bx (xk ls k j) ((ls.getD k []).getD j 0) := by
  unfold xk; rw [Str.all_take ls k h, Str.xor_at]
theorem xk_byte (ls : List (List Int)) (hb : ∀ l ∈ ls, Str.Ok l) (k j : Nat) : 0 ≤ xk ls k j ∧ xk ls k j < 256 := by
  induction k with
  | zero => unfold xk; simp [Str.all]
  | succ k ih =>
    by_cases h : k < ls.length
    · rw [xk_succ ls k j h]
      refine Str.bx_byte ih (hb _ ?_ j)
      rw [List.getD_eq_getElem?_getD, List.getElem?_eq_getElem h]
      exact List.getElem_mem _
    · have : ls.take (k + 1) = ls.take k := by rw [List.take_of_length_le (by omega), List.take_of_length_le (by omega)]
      unfold xk at ih ⊢; rw [this]; exact ih
/-- What stands in front of round k: all of them, against the first k but number t. -/
def rk (ls : List (List Int)) (t k j : Nat) : Int := Str.bx (Str.bx (xk ls ls.length j) (xk ls k j)) (if t < k then (ls.getD t []).getD j 0 else 0)
theorem getD_ok (ls : List (List Int)) (hb : ∀ l ∈ ls, Str.Ok l) (k : Nat) : Str.Ok (ls.getD k []) := by
  by_cases h : k < ls.length
  · rw [List.getD_eq_getElem?_getD, List.getElem?_eq_getElem h]
    exact hb _ (List.getElem_mem _)
  · rw [List.getD_eq_getElem?_getD, List.getElem?_eq_none (by omega)]; exact Str.ok_nil
theorem rk_zero (ls : List (List Int)) (hb : ∀ l ∈ ls, Str.Ok l) (t j : Nat) : rk ls t 0 j = xk ls ls.length j := by
  have h := xk_byte ls hb ls.length j
  unfold rk
  rw [if_neg (by omega), show xk ls 0 j = 0 from by unfold xk; simp [Str.all], Str.bx_zero h.1, Str.bx_zero h.1]
theorem rk_other (ls : List (List Int)) (hb : ∀ l ∈ ls, Str.Ok l) (t k j : Nat) (h : k < ls.length) (hk : k ≠ t) : rk ls t (k + 1) j = Str.bx (rk ls t k j) ((ls.getD k []).getD j 0) := by
  unfold rk
  rw [xk_succ ls k j h]
  have e : (if t < k + 1 then (ls.getD t []).getD j 0 else (0 : Int)) = if t < k then (ls.getD t []).getD j 0 else 0 := by
    by_cases h1 : t < k
    · rw [if_pos h1, if_pos (by omega)]
    · rw [if_neg h1, if_neg (by omega)]
  rw [e]
  generalize (if t < k then (ls.getD t []).getD j 0 else (0 : Int)) = c
  simp only [Str.bx_assoc]
  rw [Str.bx_comm _ c]
theorem rk_same (ls : List (List Int)) (hb : ∀ l ∈ ls, Str.Ok l) (t j : Nat) (h : t < ls.length) : rk ls t (t + 1) j = rk ls t t j := by
  have h1 := xk_byte ls hb ls.length j
  have h2 := xk_byte ls hb t j
  have h3 := getD_ok ls hb t j
  have h4 := Str.bx_byte h1 h2
  unfold rk
  rw [xk_succ ls t j h, if_pos (by omega), if_neg (by omega)]
  simp only [Str.bx_assoc]
  rw [Str.bx_self]
theorem rk_last (ls : List (List Int)) (hb : ∀ l ∈ ls, Str.Ok l) (t j : Nat) (h : t < ls.length) : rk ls t ls.length j = (ls.getD t []).getD j 0 := by
  have h3 := getD_ok ls hb t j
  unfold rk
  rw [if_pos h, Str.bx_self, Str.zero_bx h3.1]
end Go.Proofs.Ytppgjodehphaeaa
namespace Go.Proofs.Ytppgjodehphaeaa
open Go.RowKit Go.Shelf
set_option linter.unusedVariables false
def up' {α : Type} (f : Nat → α) (k : Nat) (x : α) : Nat → α := fun j => if j = k then x else f j
theorem up_eq {α : Type} (f : Nat → α) (k : Nat) (x : α) : up' f k x k = x := by unfold up'; rw [if_pos rfl]
theorem up_lt {α : Type} (f : Nat → α) (k : Nat) (x : α) {j : Nat} (h : j < k) : up' f k x j = f j := by unfold up'; rw [if_neg (by omega)]
theorem IRow.congr {W : World} {base : Nat} {a : Option Addr} {i c : Nat} {h h' : Nat → Nat → Int} {A A' : Nat → Option Addr} {bs bs' : Nat → List Int} {C C' : Nat → Nat} (hr : IRow W base a i c h A bs C) (he : ∀ j, j < i → h' j = h j ∧ A' j = A j ∧ bs' j = bs j ∧ C' j = C j) : IRow W base a i c h' A' bs' C' := by
  refine ⟨by rw [icells_congr i he]; exact hr.row, fun j hj => ?_, fun j hj y z hy hz => ?_⟩
  · obtain ⟨_, e2, e3, e4⟩ := he j hj
    rw [e2, e3, e4]; exact hr.own j hj
  · rw [(he j hj).2.1] at hz; exact hr.ne j hj y z hy hz
def pcells (pa : Nat → Option Addr) (pn pc : Nat → Nat) : Nat → List Value
  | 0 => []
  | i + 1 => pcells pa pn pc i ++ [.slice (pa i) (pn i) (pc i)]
theorem pcells_len (pa : Nat → Option Addr) (pn pc : Nat → Nat) : ∀ i, (pcells pa pn pc i).length = i
  | 0 => rfl
  | i + 1 => by simp [pcells, pcells_len pa pn pc i]
theorem pcells_congr {pa pa' : Nat → Option Addr} {pn pn' pc pc' : Nat → Nat} : ∀ i, (∀ j, j < i → pa' j = pa j ∧ pn' j = pn j ∧ pc' j = pc j) → pcells pa' pn' pc' i = pcells pa pn pc i
  | 0, _ => rfl
  | i + 1, h => by
    obtain ⟨h1, h2, h3⟩ := h i (by omega)
    simp only [pcells]
    rw [pcells_congr i (fun j hj => h j (by omega)), h1, h2, h3]
theorem pcells_at (pa : Nat → Option Addr) (pn pc : Nat → Nat) : ∀ i j, j < i → (pcells pa pn pc i)[j]? = some (.slice (pa j) (pn j) (pc j))
  | 0, j, h => by omega
  | i + 1, j, h => by
    have hl := pcells_len pa pn pc i
    by_cases e : j = i
    · subst e
      simp only [pcells]
      rw [List.getElem?_append_right (by omega), hl, Nat.sub_self]; rfl
    · simp only [pcells]
      rw [List.getElem?_append_left (by omega)]
      exact pcells_at pa pn pc i j (by omega)
/-- What a gathered packet is. -/
structure Got1 (w : World) (pa : Option Addr) (pn pc : Nat) (l : List Int) (h : Nat → Int) (b : List Int) : Prop where
  bat : BAt w pa pn l
  cap : pn ≤ pc
  few : pn ≤ 500
  code : pcodeF pn l = 0
  head : [h 0, h 1, h 2, h 3, h 4, h 5, h 6, h 7] = ihd l
  body : b = l.drop 12
  by8 : ∀ j, 0 ≤ h j ∧ h j < 256
/-- K of them so far; the imprints' slice is in the box X. -/
structure FS (w W : World) (X B K : Nat) (ax : Option Addr) (cx : Nat) (ap : Option Addr) (cp : Nat) (h : Nat → Nat → Int) (A : Nat → Option Addr) (bs : Nat → List Int) (C : Nat → Nat) (pa : Nat → Option Addr) (pn pc : Nat → Nat) (ls : Nat → List Int) : Prop where
  box : W.heap[X]? = some (.cells #[.slice ax K cx] 54 (0, 0))
  xs : IRow W B ax K cx h A bs C
  ps : W.ownsRow B 22 1 (.slice ap K cp) K (pcells pa pn pc K)
  ne1 : ∀ y z, ax = some y → ap = some z → y.block ≠ z.block
  ne2 : ∀ j, j < K → ∀ y z, A j = some y → ap = some z → y.block ≠ z.block
  got : ∀ j, j < K → Got1 w (pa j) (pn j) (pc j) (ls j) (h j) (bs j)
  low : Below w.heap.size w W
  hX : w.heap.size ≤ X ∧ X < W.heap.size ∧ w.heap.size ≤ B ∧ B ≤ W.heap.size
  x1 : ∀ y, ax = some y → y.block ≠ X
  x2 : ∀ y, ap = some y → y.block ≠ X
  x3 : ∀ j, j < K → ∀ y, A j = some y → y.block ≠ X
theorem FS.below {w W W' : World} {X B K : Nat} {ax : Option Addr} {cx : Nat} {ap : Option Addr} {cp : Nat} {h : Nat → Nat → Int} {A : Nat → Option Addr} {bs : Nat → List Int} {C : Nat → Nat} {pa : Nat → Option Addr} {pn pc : Nat → Nat} {ls : Nat → List Int} (hf : FS w W X B K ax cx ap cp h A bs C pa pn pc ls) (hb : Below W.heap.size W W') : FS w W' X B K ax cx ap cp h A bs C pa pn pc ls :=
  ⟨(hb.block X (by have := hf.hX; omega)).trans hf.box, hf.xs.below hb, hf.ps.kept (row := none) ⟨hb.os, hb.tape, hb.output, hb.size, fun j hj _ => hb.block j hj⟩ (Classical.em _), hf.ne1, hf.ne2, hf.got, hf.low.trans (hb.mono hf.low.size), ⟨hf.hX.1, by have := hf.hX; have := hb.size; omega, hf.hX.2.2.1, by have := hf.hX; have := hb.size; omega⟩, hf.x1, hf.x2, hf.x3⟩
theorem FS.apb {w W : World} {X B K : Nat} {ax : Option Addr} {cx : Nat} {ap : Option Addr} {cp : Nat} {h : Nat → Nat → Int} {A : Nat → Option Addr} {bs : Nat → List Int} {C : Nat → Nat} {pa : Nat → Option Addr} {pn pc : Nat → Nat} {ls : Nat → List Int} (hf : FS w W X B K ax cx ap cp h A bs C pa pn pc ls) : ∀ x, ap = some x → B ≤ x.block ∧ x.block < W.heap.size := fun x hx => by
  subst hx; exact hf.ps.lt x.block rfl
/-- One more: the imprint first, then the packet, then the box. -/
theorem FS.push {w W : World} {X B K : Nat} {ax : Option Addr} {cx : Nat} {ap : Option Addr} {cp : Nat} {h : Nat → Nat → Int} {A : Nat → Option Addr} {bs : Nat → List Int} {C : Nat → Nat} {pa : Nat → Option Addr} {pn pc : Nat → Nat} {ls : Nat → List Int} (hf : FS w W X B K ax cx ap cp h A bs C pa pn pc ls)
    (g : Nat → Int) (a' : Option Addr) (c' : Nat) (b : List Int) (p : Option Addr) (n d : Nat) (l : List Int) (hg : Got1 w p n d l g b) (hO : Own W B a' b.length c' b) (hs1 : ∀ y z, ax = some y → a' = some z → y.block ≠ z.block) (hs2 : ∀ y z, a' = some y → ap = some z → y.block ≠ z.block) (hs3 : ∀ y, a' = some y → y.block ≠ X) (hK : K ≤ 1000) (ty1 ty2 : TypeId) :
    ∃ a2 c2 w2, (Builtin.append_ #[54, 54] ty1 #[.slice ax K cx, .slice (some ⟨W.heap.size, 0, none⟩) 1 1]).run Try.prog (W.alloc (.cells #[.int .u8 (g 0), .int .u8 (g 1), .int .u8 (g 2), .int .u8 (g 3), .int .u8 (g 4), .int .u8 (g 5), .int .u8 (g 6), .int .u8 (g 7), .slice a' b.length c'] 27)) = .ok (.slice a2 (K + 1) c2) w2 ∧
      ∃ a3 c3 w3, (Builtin.append_ #[53, 53] ty2 #[.slice ap K cp, .slice (some ⟨w2.heap.size, 0, none⟩) 1 1]).run Try.prog (w2.alloc (.cells #[.slice p n d] 22)) = .ok (.slice a3 (K + 1) c3) w3 ∧
        w3.cell? ⟨X, 0, none⟩ = some (.slice ax K cx) ∧ w3.frozen? ⟨X, 0, none⟩ = false ∧
        FS w (w3.setCell ⟨X, 0, none⟩ (.slice a2 (K + 1) c2)) X B (K + 1) a2 c2 a3 c3 (up' h K g) (up' A K a') (up' bs K b) (up' C K c') (up' pa K p) (up' pn K n) (up' pc K d) (up' ls K l) := by
  have hX := hf.hX
  have hax := hf.xs.blk
  have hap := hf.apb
  have hxs : IRow W B ax K cx (up' h K g) (up' A K a') (up' bs K b) (up' C K c') := hf.xs.congr fun j hj => ⟨up_lt h K g hj, up_lt A K a' hj, up_lt bs K b hj, up_lt C K c' hj⟩
  obtain ⟨a2, c2, w2, hr2, hI2, hg2, hl2⟩ := append_bits W ty1 B ax K cx (up' h K g) (up' A K a') (up' bs K b) (up' C K c') hxs (by rw [up_eq, up_eq, up_eq]; exact hO) (by rw [up_eq]; exact hs1) (by omega) hX.2.2.2
  rw [up_eq, up_eq, up_eq, up_eq] at hr2 hg2
  have hbw : Below W.heap.size W (W.alloc (.cells #[.int .u8 (g 0), .int .u8 (g 1), .int .u8 (g 2), .int .u8 (g 3), .int .u8 (g 4), .int .u8 (g 5), .int .u8 (g 6), .int .u8 (g 7), .slice a' b.length c'] 27)) := (Below.refl _ W).alloc (Nat.le_refl _) _
  have hsz2 : W.heap.size + 1 ≤ w2.heap.size := by have := hg2.size; simpa using this
  have keep2 : ∀ k, k < W.heap.size → (∀ y, ax = some y → y.block ≠ k) → w2.heap[k]? = W.heap[k]? := fun k hk hn => (hg2.block k (by simp; omega) (fun e => by
    cases ax with
    | none => simp at e
    | some y => simp at e; exact hn y rfl e.symm)).trans (hbw.block k hk)
  have hps2 : w2.ownsRow B 22 1 (.slice ap K cp) K (pcells pa pn pc K) := by
    have h1 : (W.alloc (.cells #[.int .u8 (g 0), .int .u8 (g 1), .int .u8 (g 2), .int .u8 (g 3), .int .u8 (g 4), .int .u8 (g 5), .int .u8 (g 6), .int .u8 (g 7), .slice a' b.length c'] 27)).ownsRow B 22 1 (.slice ap K cp) K (pcells pa pn pc K) := hf.ps.alloc _
    refine h1.kept hg2 ?_
    cases ap with
    | none => exact .inl rfl
    | some z => exact .inr (fun e => by
        cases ax with
        | none => simp [Value.ownBlock] at e
        | some y => have := hf.ne1 y z rfl rfl; simp [Value.ownBlock] at e; omega)
  obtain ⟨a3, c3, w3, hr3, hP3, hg3, hl3⟩ := append_slice1 w2 ty2 B ap K cp _ hps2 p n d (by omega) (by omega)
  have hbw2 : Below w2.heap.size w2 (w2.alloc (.cells #[.slice p n d] 22)) := (Below.refl _ w2).alloc (Nat.le_refl _) _
  have hsz3 : w2.heap.size + 1 ≤ w3.heap.size := by have := hg3.size; simpa using this
  have keep3 : ∀ k, k < w2.heap.size → (∀ y, ap = some y → y.block ≠ k) → w3.heap[k]? = w2.heap[k]? := fun k hk hn => (hg3.block k (by simp; omega) (fun e => by
    cases ap with
    | none => simp at e
    | some y => simp at e; exact hn y rfl e.symm)).trans (hbw2.block k hk)
  -- the box
  have hb3 : w3.heap[X]? = some (.cells #[.slice ax K cx] 54 (0, 0)) := (keep3 X (by omega) (fun y hy => hf.x2 y hy)).trans ((keep2 X (by omega) (fun y hy => hf.x1 y hy)).trans hf.box)
  obtain ⟨w4, hw4⟩ : ∃ w4, w3.setCell ⟨X, 0, none⟩ (.slice a2 (K + 1) c2) = w4 := ⟨_, rfl⟩
  have g34 : w3.grownBy w4 (some X) := by rw [← hw4]; exact ⟨rfl, rfl, rfl, by simp, fun j _ hj => Below.heap_setCell w3 _ _ j (fun e => hj (by rw [e]))⟩
  have hb4 : w4.heap[X]? = some (.cells #[.slice a2 (K + 1) c2] 54 (0, 0)) := by rw [← hw4]; exact heap_setCell_same w3 X 0 _ _ _ hb3
  have ha2 : ∀ x, a2 = some x → B ≤ x.block ∧ x.block < w2.heap.size := hI2.blk
  have hla2 : ∀ x y, a2 = some x → ap = some y → x.block ≠ y.block := fun x y hx hy => by
    rcases hl2 x hx with ⟨z, hz, e⟩ | e
    · have := hf.ne1 z y hz hy; omega
    · have := hap y hy; omega
  have hA : ∀ j, j < K + 1 → ∀ x y, up' A K a' j = some x → ap = some y → x.block ≠ y.block := fun j hj x y hx hy => by
    by_cases e : j = K
    · subst e; rw [up_eq] at hx; exact hs2 x y hx hy
    · rw [up_lt A K a' (by omega)] at hx; exact hf.ne2 j (by omega) x y hx hy
  have hAb : ∀ j, j < K + 1 → ∀ x, up' A K a' j = some x → x.block < W.heap.size := fun j hj x hx => by
    by_cases e : j = K
    · subst e; rw [up_eq] at hx; exact (hO.blk x hx).2
    · rw [up_lt A K a' (by omega)] at hx; exact ((hf.xs.own j (by omega)).blk x hx).2
  have hAX : ∀ j, j < K + 1 → ∀ x, up' A K a' j = some x → x.block ≠ X := fun j hj x hx => by
    by_cases e : j = K
    · subst e; rw [up_eq] at hx; exact hs3 x hx
    · rw [up_lt A K a' (by omega)] at hx; exact hf.x3 j (by omega) x hx
  have ha2X : ∀ x, a2 = some x → x.block ≠ X := fun x hx => by
    rcases hl2 x hx with ⟨z, hz, e⟩ | e
    · have := hf.x1 z hz; omega
    · omega
  have hI3 : IRow w3 B a2 (K + 1) c2 (up' h K g) (up' A K a') (up' bs K b) (up' C K c') := by
    refine (hI2.below hbw2).keptw hg3 (fun y hy e => ?_) (fun j hj z hz e => ?_)
    · cases ap with
      | none => simp at e
      | some q => have := hla2 y q hy rfl; simp at e; omega
    · cases ap with
      | none => simp at e
      | some q => have := hA j hj z q hz rfl; simp at e; omega
  have hI4 : IRow w4 B a2 (K + 1) c2 (up' h K g) (up' A K a') (up' bs K b) (up' C K c') := hI3.keptw g34 (fun y hy e => by have := ha2X y hy; simp at e; omega) (fun j hj z hz e => by have := hAX j hj z hz; simp at e; omega)
  have ha3 : ∀ x, a3 = some x → x.block ≠ X := fun x hx => by
    rcases hl3 x hx with ⟨z, hz, e⟩ | e
    · have := hf.x2 z hz; omega
    · omega
  have hP4 : w4.ownsRow B 22 1 (.slice a3 (K + 1) c3) (K + 1) (pcells (up' pa K p) (up' pn K n) (up' pc K d) (K + 1)) := by
    have e : pcells (up' pa K p) (up' pn K n) (up' pc K d) (K + 1) = pcells pa pn pc K ++ [.slice p n d] := by
      simp only [pcells, up_eq]
      rw [pcells_congr K (fun j hj => ⟨up_lt pa K p hj, up_lt pn K n hj, up_lt pc K d hj⟩)]
    rw [e]
    refine hP3.kept g34 ?_
    cases a3 with
    | none => exact .inl rfl
    | some x => exact .inr (fun e => by have := ha3 x rfl; simp [Value.ownBlock] at e; omega)
  refine ⟨a2, c2, w2, hr2, a3, c3, w3, hr3, by rw [cell_of_row w3 _ 0 _ _ _ hb3]; rfl, frozen_of_row w3 _ 0 _ _ hb3, ?_⟩
  rw [hw4]
  refine ⟨hb4, hI4, hP4, fun y z hy hz => ?_, fun j hj y z hy hz => ?_, fun j hj => ?_, ?_, ⟨hX.1, by have := g34.size; omega, hX.2.2.1, by have := g34.size; omega⟩, ha2X, ha3, hAX⟩
  · rcases hl3 z hz with ⟨q, hq, e⟩ | e
    · have := hla2 y q hy hq; omega
    · have := (ha2 y hy).2; omega
  · rcases hl3 z hz with ⟨q, hq, e⟩ | e
    · have := hA j hj y q hy hq; omega
    · have := hAb j hj y hy; omega
  · by_cases e : j = K
    · subst e; simp only [up_eq]; exact hg
    · rw [up_lt pa K p (by omega), up_lt pn K n (by omega), up_lt pc K d (by omega), up_lt ls K l (by omega), up_lt h K g (by omega), up_lt bs K b (by omega)]
      exact hf.got j (by omega)
  · have b1 : Below w.heap.size w (W.alloc (.cells #[.int .u8 (g 0), .int .u8 (g 1), .int .u8 (g 2), .int .u8 (g 3), .int .u8 (g 4), .int .u8 (g 5), .int .u8 (g 6), .int .u8 (g 7), .slice a' b.length c'] 27)) := hf.low.alloc hf.low.size _
    have b2 : Below w.heap.size w w2 := b1.grown hg2 b1.size (fun k e => by
      cases ax with
      | none => simp at e
      | some y => have := (hax y rfl).1; simp at e; omega)
    have b3 : Below w.heap.size w (w2.alloc (.cells #[.slice p n d] 22)) := b2.alloc b2.size _
    have b4 : Below w.heap.size w w3 := b3.grown hg3 b3.size (fun k e => by
      cases ap with
      | none => simp at e
      | some y => have := (hap y rfl).1; simp at e; omega)
    exact b4.grown g34 b4.size (fun k e => by cases e; exact hX.1)
end Go.Proofs.Ytppgjodehphaeaa
namespace Go.Proofs.Ytppgjodehphaeaa
open Go.RowKit Go.Shelf
set_option linter.unusedVariables false
set_option linter.unusedSimpArgs false
def hsOf (K : Nat) (h : Nat → Nat → Int) : List (List Int) := (List.range K).map fun j => [h j 0, h j 1, h j 2, h j 3, h j 4, h j 5, h j 6, h j 7]
def bsOf (K : Nat) (bs : Nat → List Int) : List (List Int) := (List.range K).map bs
theorem hsOf_at {K : Nat} {h : Nat → Nat → Int} {k : Nat} (hk : k < K) : (hsOf K h).getD k [] = [h k 0, h k 1, h k 2, h k 3, h k 4, h k 5, h k 6, h k 7] := by simp [hsOf, List.getD_eq_getElem?_getD, hk]
theorem bsOf_at {K : Nat} {bs : Nat → List Int} {k : Nat} (hk : k < K) : (bsOf K bs).getD k [] = bs k := by simp [bsOf, List.getD_eq_getElem?_getD, hk]
theorem hsOf_len (K : Nat) (h : Nat → Nat → Int) : (hsOf K h).length = K := by simp [hsOf]
theorem bsOf_len (K : Nat) (bs : Nat → List Int) : (bsOf K bs).length = K := by simp [bsOf]
theorem fd_all_len : ∀ (ls : List (List Int)) (s : List Int) (N : Nat), s.length ≤ N → (∀ l ∈ ls, l.length ≤ N) → (Str.all s ls).length ≤ N
  | [], s, N, h, _ => h
  | l :: ls, s, N, h, hl => fd_all_len ls (Str.xor s l) N (by rw [Str.xor_len]; have := hl l (by simp); omega) (fun x hx => hl x (by simp [hx]))
theorem fd_all_ge : ∀ (ls : List (List Int)) (s : List Int), s.length ≤ (Str.all s ls).length ∧ ∀ l ∈ ls, l.length ≤ (Str.all s ls).length
  | [], s => ⟨Nat.le_refl _, fun l hl => by cases hl⟩
  | l :: ls, s => by
    obtain ⟨h1, h2⟩ := fd_all_ge ls (Str.xor s l)
    have h3 : (Str.xor s l).length = max s.length l.length := Str.xor_len s l
    refine ⟨?_, fun x hx => ?_⟩
    · show s.length ≤ (Str.all (Str.xor s l) ls).length; omega
    · rcases List.mem_cons.1 hx with rfl | hx
      · show x.length ≤ (Str.all (Str.xor s x) ls).length; omega
      · exact h2 x hx
theorem fd_all_8 (ls : List (List Int)) (h : ∀ l ∈ ls, l.length = 8) : (Str.all [] ls).length = 8 ∨ Str.all [] ls = [] := by
  cases ls with
  | nil => exact .inr rfl
  | cons a ls =>
    left
    have h1 := fd_all_len (a :: ls) [] 8 (by simp) (fun l hl => by rw [h l hl]; exact Nat.le_refl _)
    have h2 := (fd_all_ge (a :: ls) []).2 a (by simp)
    rw [h a (by simp)] at h2
    omega
theorem hsOf_8 (K : Nat) (h : Nat → Nat → Int) : ∀ l ∈ hsOf K h, l.length = 8 := fun l hl => by
  unfold hsOf at hl
  obtain ⟨j, _, rfl⟩ := List.mem_map.1 hl
  rfl
/-- The row's cells in every later world. -/
theorem FS.at {w W : World} {X B K : Nat} {ax : Option Addr} {cx : Nat} {ap : Option Addr} {cp : Nat} {h : Nat → Nat → Int} {A : Nat → Option Addr} {bs : Nat → List Int} {C : Nat → Nat} {pa : Nat → Option Addr} {pn pc : Nat → Nat} {ls : Nat → List Int} (hf : FS w W X B K ax cx ap cp h A bs C pa pn pc ls) :
    ∃ g, (0 < K → ax = some ⟨g, 0, none⟩) ∧ (0 < K → g < W.heap.size) ∧ ∀ V, Below W.heap.size W V → ∀ k, k < K → IvAt V g 0 k h A (fun j => (bs j).length) C := by
  obtain ⟨g, h1, h2, _⟩ := hf.xs.at
  refine ⟨g, h1, fun hk => (h2 hk).2, fun V hV k hk => ?_⟩
  obtain ⟨g', h1', _, h3'⟩ := (hf.below hV).xs.at
  have e : g' = g := by
    have e1 := h1 (by omega); have e2 := h1' (by omega)
    rw [e1] at e2; simpa using e2.symm
  rw [← e]; exact h3' k hk
theorem FS.len {w W : World} {X B K : Nat} {ax : Option Addr} {cx : Nat} {ap : Option Addr} {cp : Nat} {h : Nat → Nat → Int} {A : Nat → Option Addr} {bs : Nat → List Int} {C : Nat → Nat} {pa : Nat → Option Addr} {pn pc : Nat → Nat} {ls : Nat → List Int} (hf : FS w W X B K ax cx ap cp h A bs C pa pn pc ls) : ∀ j, j < K → (bs j).length ≤ 488 := fun j hj => by
  obtain ⟨h1, h2, h3, h4, h5, h6, h7⟩ := hf.got j hj
  have := h1.len; have := pcodeF_long h4
  rw [h6, List.length_drop]; omega
set_option maxHeartbeats 400000 in
set_option maxRecDepth 100000 in
theorem FS.fold {w W : World} {X B K : Nat} {ax : Option Addr} {cx : Nat} {ap : Option Addr} {cp : Nat} {h : Nat → Nat → Int} {A : Nat → Option Addr} {bs : Nat → List Int} {C : Nat → Nat} {pa : Nat → Option Addr} {pn pc : Nat → Nat} {ls : Nat → List Int} (hf : FS w W X B K ax cx ap cp h A bs C pa pn pc ls) (hK : K ≤ 1000) :
    Calls Try.prog 22 #[.func (.func 23) #[] #[.pointer (some ⟨X, 0, none⟩)]] W (IFoldOut (hsOf K h) (bsOf K bs) W) := by
  obtain ⟨g, hg1, hg2, hg3⟩ := hf.at
  have hlen := hf.len
  refine ifold_any W _ _ (ivalsRel h A (fun j => (bs j).length) C) (hsOf K h) (bsOf K bs) 0 (ivalsPre X ax K cx g 0 h A (fun j => (bs j).length) C) (by rw [hsOf_len, bsOf_len])
    (by rw [hsOf_len]; exact ifolds_rel 3 (by omega) X ax K cx g 0 (by omega) hg1 h A _ C) if_ent (if_nil _) ?_ (fun x Wp lo hi _ _ s A B row hR _ _ => hR) (fun k x Wp V hv => ⟨fun j => h k j, _, _, _, hv⟩) (fun V hV => ?_) (by rw [hsOf_len]; omega) ?_ ?_
  · rintro k v Wp V hk hWp hV hlt hR
    rw [hsOf_len] at hk
    have hgk := hf.got k hk
    have hO := hf.xs.own k hk
    refine ⟨fun j => h k j, A k, (bs k).length, C k, hR, hsOf_at hk, hgk.by8, by have := hlen k hk; omega, ?_, fun x h0 hx => ?_⟩
    · rw [bsOf_at hk]; exact hO.bat.below hV
    · left; exact (hO.blk x hx).2
  · exact ⟨by rw [cell_of_row V _ 0 _ _ _ ((hV.block X hf.hX.2.1).trans hf.box)]; rfl, fun k hk => hg3 V hV k hk⟩
  · refine Nat.le_trans (fd_all_len _ [] 488 (by simp) fun l hl => ?_) (by decide)
    unfold bsOf at hl
    obtain ⟨j, hj, rfl⟩ := List.mem_map.1 hl
    exact hlen j (List.mem_range.1 hj)
  · exact fd_all_8 _ (hsOf_8 K h)
/-- The reference's imprints of the same. -/
theorem FS.fat {w V W : World} {X B K BR : Nat} {ax : Option Addr} {cx : Nat} {ap : Option Addr} {cp : Nat} {h : Nat → Nat → Int} {A : Nat → Option Addr} {bs : Nat → List Int} {C : Nat → Nat} {pa : Nat → Option Addr} {pn pc : Nat → Nat} {ls : Nat → List Int} (hf : FS w V X B K ax cx ap cp h A bs C pa pn pc ls) (hb : Below V.heap.size V W) {ar : Option Addr} {cr : Nat} (hr : FRow W BR ar K cr (fun j => [h j 0, h j 1, h j 2, h j 3, h j 4, h j 5, h j 6, h j 7]) A (fun j => (bs j).length) C) :
    FAt W ar K (hsOf K h) (bsOf K bs) := by
  obtain ⟨g, AH, CH, h1, h2, h3⟩ := hr.at
  refine ⟨g, 0, AH, CH, A, fun j => (bs j).length, C, h1, h2, fun k hk => ?_⟩
  obtain ⟨q1, q2, q3⟩ := h3 k hk
  refine ⟨q1, q2, by rw [hsOf_at hk]; exact q3, by rw [bsOf_at hk]; exact (hf.xs.own k hk).bat.below hb, by have := hf.len k hk; show (bs k).length ≤ _; omega⟩
theorem fd_all_at : ∀ (ls : List (List Int)) (s t : List Int), (∀ j, s.getD j 0 = t.getD j 0) → ∀ j, (Str.all s ls).getD j 0 = (Str.all t ls).getD j 0
  | [], _, _, h, j => h j
  | l :: ls, s, t, h, j => fd_all_at ls (Str.xor s l) (Str.xor t l) (fun i => by rw [Str.xor_at, Str.xor_at, h i]) j
theorem fd_z8 (ls : List (List Int)) (j : Nat) : (Str.all z8 ls).getD j 0 = (Str.all [] ls).getD j 0 := fd_all_at ls z8 [] (fun j => by
  rcases j with _ | _ | _ | _ | _ | _ | _ | _ | j
  all_goals simp [z8]) j
theorem fd_head (ls : List (List Int)) (h8 : ∀ l ∈ ls, l.length = 8) (g : Nat → Int) (hg : ∀ j, (Str.all [] ls).getD j 0 = g j) : [g 0, g 1, g 2, g 3, g 4, g 5, g 6, g 7] = Str.all z8 ls := by
  refine getD_ext (by rw [all_len8 ls h8]; rfl) fun i hi => ?_
  rw [fd_z8, hg]
  rcases i with _ | _ | _ | _ | _ | _ | _ | _ | i
  all_goals first | rfl | (simp at hi; omega)
theorem hsOf_ok {K : Nat} {h : Nat → Nat → Int} (hb : ∀ k, k < K → ∀ j, 0 ≤ h k j ∧ h k j < 256) : ∀ l ∈ hsOf K h, Str.Ok l := fun l hl => by
  unfold hsOf at hl
  obtain ⟨k, hk, rfl⟩ := List.mem_map.1 hl
  have := hb k (List.mem_range.1 hk)
  intro i
  rcases i with _ | _ | _ | _ | _ | _ | _ | _ | i
  all_goals first | exact this _ | exact ⟨by simp, by simp⟩
theorem FS.bok {w W : World} {X B K : Nat} {ax : Option Addr} {cx : Nat} {ap : Option Addr} {cp : Nat} {h : Nat → Nat → Int} {A : Nat → Option Addr} {bs : Nat → List Int} {C : Nat → Nat} {pa : Nat → Option Addr} {pn pc : Nat → Nat} {ls : Nat → List Int} (hf : FS w W X B K ax cx ap cp h A bs C pa pn pc ls) : ∀ l ∈ bsOf K bs, Str.Ok l := fun l hl => by
  unfold bsOf at hl
  obtain ⟨k, hk, rfl⟩ := List.mem_map.1 hl
  exact (hf.xs.own k (List.mem_range.1 hk)).ok
theorem FS.blen {w W : World} {X B K : Nat} {ax : Option Addr} {cx : Nat} {ap : Option Addr} {cp : Nat} {h : Nat → Nat → Int} {A : Nat → Option Addr} {bs : Nat → List Int} {C : Nat → Nat} {pa : Nat → Option Addr} {pn pc : Nat → Nat} {ls : Nat → List Int} (hf : FS w W X B K ax cx ap cp h A bs C pa pn pc ls) (k : Nat) : (Str.all [] ((bsOf K bs).take k)).length ≤ 488 := by
  refine fd_all_len _ [] 488 (by simp) fun l hl => ?_
  have hl := List.mem_of_mem_take hl
  unfold bsOf at hl
  obtain ⟨j, hj, rfl⟩ := List.mem_map.1 hl
  exact hf.len j (List.mem_range.1 hj)
end Go.Proofs.Ytppgjodehphaeaa
namespace Go.Proofs.Ytppgjodehphaeaa
open Go.RowKit Go.Shelf
set_option linter.unusedVariables false
set_option linter.unusedSimpArgs false
theorem all2_at {a b : List Int} (ha : Str.Ok a) (j : Nat) : (Str.all [] [a, b]).getD j 0 = Str.bx (a.getD j 0) (b.getD j 0) := by
  show (Str.xor (Str.xor [] a) b).getD j 0 = _
  rw [Str.nil_xor ha, Str.xor_at]
theorem all2_len {a b : List Int} (ha : Str.Ok a) : (Str.all [] [a, b]).length = max a.length b.length := by
  show (Str.xor (Str.xor [] a) b).length = _
  rw [Str.nil_xor ha, Str.xor_len]
def l8' (h : Nat → Int) : List Int := [h 0, h 1, h 2, h 3, h 4, h 5, h 6, h 7]
theorem l8_at (h : Nat → Int) {j : Nat} (hj : j < 8) : [h 0, h 1, h 2, h 3, h 4, h 5, h 6, h 7].getD j 0 = h j := by
  match j, hj with
  | 0, _ => rfl
  | 1, _ => rfl
  | 2, _ => rfl
  | 3, _ => rfl
  | 4, _ => rfl
  | 5, _ => rfl
  | 6, _ => rfl
  | 7, _ => rfl
theorem l8_ok (h : Nat → Int) (hb : ∀ j, 0 ≤ h j ∧ h j < 256) : Str.Ok [h 0, h 1, h 2, h 3, h 4, h 5, h 6, h 7] := fun i => by
  rcases i with _ | _ | _ | _ | _ | _ | _ | _ | i
  all_goals first | exact hb _ | exact ⟨by simp, by simp⟩
/-- In front of round i. -/
structure RR (w7 W : World) (PR : Nat) (HS BS : List (List Int)) (t i N : Nat) (ρ : Nat → Int) (ar : Option Addr) (nr cr : Nat) (R : List Int) : Prop where
  box : Bx W PR (ρ 0) (ρ 1) (ρ 2) (ρ 3) (ρ 4) (ρ 5) (ρ 6) (ρ 7) ar nr cr
  bat : BAt W ar nr R
  ne : ∀ x, 0 < nr → ar = some x → x.block ≠ PR
  hd : ∀ j, j < 8 → ρ j = rk HS t i j
  by8 : ∀ j, 0 ≤ ρ j ∧ ρ j < 256
  bd : ∀ j, R.getD j 0 = rk BS t i j
  le : N ≤ nr ∧ nr ≤ 500
  cap : nr ≤ cr
  low : Below w7.heap.size w7 W
  pr : w7.heap.size ≤ PR
theorem RR.below {w7 W W' : World} {PR : Nat} {HS BS : List (List Int)} {t i N : Nat} {ρ : Nat → Int} {ar : Option Addr} {nr cr : Nat} {R : List Int} (h : RR w7 W PR HS BS t i N ρ ar nr cr R) (hb : Below W.heap.size W W') : RR w7 W' PR HS BS t i N ρ ar nr cr R :=
  ⟨h.box.below hb, h.bat.below hb, h.ne, h.hd, h.by8, h.bd, h.le, h.cap, h.low.trans (hb.mono h.low.size), h.pr⟩
theorem RR.skip {w7 W : World} {PR : Nat} {HS BS : List (List Int)} {t N : Nat} {ρ : Nat → Int} {ar : Option Addr} {nr cr : Nat} {R : List Int} (h : RR w7 W PR HS BS t t N ρ ar nr cr R) (hH : ∀ l ∈ HS, Str.Ok l) (hB : ∀ l ∈ BS, Str.Ok l) (h1 : t < HS.length) (h2 : t < BS.length) : RR w7 W PR HS BS t (t + 1) N ρ ar nr cr R :=
  ⟨h.box, h.bat, h.ne, fun j hj => by rw [rk_same HS hH t j h1]; exact h.hd j hj, h.by8, fun j => by rw [rk_same BS hB t j h2]; exact h.bd j, h.le, h.cap, h.low, h.pr⟩
theorem RR.next {w7 W W' W2 : World} {PR : Nat} {HS BS : List (List Int)} {t i N : Nat} {ρ : Nat → Int} {ar : Option Addr} {nr cr : Nat} {R : List Int} (h : RR w7 W PR HS BS t i N ρ ar nr cr R) (hb : Below W.heap.size W W') (hH : ∀ l ∈ HS, Str.Ok l) (hB : ∀ l ∈ BS, Str.Ok l) (hi1 : i < HS.length) (hi2 : i < BS.length) (hit : i ≠ t)
    (g : Nat → Int) (b : List Int) (hg : HS.getD i [] = [g 0, g 1, g 2, g 3, g 4, g 5, g 6, g 7]) (hgb : ∀ j, 0 ≤ g j ∧ g j < 256) (hbb : BS.getD i [] = b) (hb5 : b.length ≤ 500) (ρ' : Nat → Int) (hr : ∀ j, (Str.all [] [[ρ 0, ρ 1, ρ 2, ρ 3, ρ 4, ρ 5, ρ 6, ρ 7], [g 0, g 1, g 2, g 3, g 4, g 5, g 6, g 7]]).getD j 0 = ρ' j)
    (a' : Option Addr) (n' c' : Nat) (hn : (Str.all [] [R, b]).length = n') (hO : Own W' W.heap.size a' n' c' (Str.all [] [R, b])) (hp : Put W' W2 PR #[.int .u8 (ρ' 0), .int .u8 (ρ' 1), .int .u8 (ρ' 2), .int .u8 (ρ' 3), .int .u8 (ρ' 4), .int .u8 (ρ' 5), .int .u8 (ρ' 6), .int .u8 (ρ' 7), .slice a' n' c'] 27) :
    RR w7 W2 PR HS BS t (i + 1) N ρ' a' n' c' (Str.all [] [R, b]) := by
  have hok := l8_ok ρ h.by8
  have hRok := h.bat.ok
  have hRl := h.bat.len
  have hPR := h.box.size
  have hbk : Str.Ok b := by rw [← hbb]; exact getD_ok BS hB i
  have hl := all2_len (b := b) hRok
  have hlow : Below w7.heap.size w7 W' := h.low.trans (hb.mono h.low.size)
  refine ⟨hp.row, ?_, fun x h0 hx => ?_, fun j hj => ?_, fun j => ?_, fun j => ?_, ?_, hO.cap7, hlow.grown hp.grown hlow.size (fun k e => by cases e; exact h.pr), h.pr⟩
  · refine hO.bat.same (by rw [hp.size]; exact Nat.le_refl _) fun x h0 hx hlt => hp.grown.block _ hlt (fun e => ?_)
    have := (hO.blk x hx).1; simp at e; omega
  · have := (hO.blk x hx).1; omega
  · rw [← hr j, all2_at hok, l8_at ρ hj, rk_other HS hH t i j hi1 hit, hg, l8_at g hj, h.hd j hj]
  · rw [← hr j, all2_at hok]
    exact Str.bx_byte (hok j) (l8_ok g hgb j)
  · rw [all2_at hRok, rk_other BS hB t i j hi2 hit, hbb, h.bd j]
  · have := h.le; omega
end Go.Proofs.Ytppgjodehphaeaa
namespace Go.Proofs.Ytppgjodehphaeaa
open Go.RowKit Go.Shelf
set_option linter.unusedVariables false
set_option linter.unusedSimpArgs false
theorem ip_len {l : List Int} (h1 : 12 ≤ l.length) (h2 : l.length ≤ 1500) : ipl (((l.length - 12 : Nat) : Int) / 256) (((l.length - 12 : Nat) : Int) % 256) = l.length - 12 := by
  unfold ipl; omega
theorem ip_back {l m : List Int} (ho : Str.Ok l) (h1 : 12 ≤ l.length) (h2 : l.length ≤ 1500) (hv : l.getD 0 0 / 64 = 2) :
    ipb (l.getD 0 0 % 64) (l.getD 1 0) (l.getD 4 0) (l.getD 5 0) (l.getD 6 0) (l.getD 7 0) (((l.length - 12 : Nat) : Int) / 256) (((l.length - 12 : Nat) : Int) % 256) (l.drop 12 ++ m) (l.length - 12) (Num ((l.drop 2).take 2)) (Num ((l.drop 8).take 4)) = l := by
  match l, h1 with
  | x0 :: x1 :: x2 :: x3 :: x4 :: x5 :: x6 :: x7 :: x8 :: x9 :: x10 :: x11 :: r, _ =>
    have a0 := ho 0; have a1 := ho 1; have a2 := ho 2; have a3 := ho 3; have a8 := ho 8; have a9 := ho 9; have a10 := ho 10; have a11 := ho 11
    simp only [List.getD_cons_zero, List.getD_cons_succ] at *
    unfold ipb
    have hr : ((x0 :: x1 :: x2 :: x3 :: x4 :: x5 :: x6 :: x7 :: x8 :: x9 :: x10 :: x11 :: r).length - 12) = r.length := by simp
    rw [hr]
    simp only [List.drop_succ_cons, List.drop_zero, List.take_succ_cons, List.take_zero, List.take_left]
    simp [Big, Num, List.range_succ]
    omega
theorem fd_packet {l R : List Int} (ρ : Nat → Int) (hρ : [ρ 0, ρ 1, ρ 2, ρ 3, ρ 4, ρ 5, ρ 6, ρ 7] = ihd l) (hR : ∀ j, R.getD j 0 = (l.drop 12).getD j 0) (hle : l.length - 12 ≤ R.length) (ho : Str.Ok l) (n : Nat) (hn : l.length = n) (hf : pcodeF n l = 0) (hv : l.getD 0 0 / 64 = 2) :
    ipc (ρ 0) (ρ 1) (ρ 2) (ρ 3) (ρ 4) (ρ 5) (ρ 6) (ρ 7) R (Num ((l.drop 2).take 2)) (Num ((l.drop 8).take 4)) = 0 ∧ ipo (ρ 0) (ρ 1) (ρ 2) (ρ 3) (ρ 4) (ρ 5) (ρ 6) (ρ 7) R (Num ((l.drop 2).take 2)) (Num ((l.drop 8).take 4)) = l := by
  have hb := pcodeF_long hf
  obtain ⟨m, hm⟩ : ∃ m, R = l.drop 12 ++ m := by
    refine ⟨R.drop (l.length - 12), ?_⟩
    have e : R.take (l.length - 12) = l.drop 12 := by
      refine getD_ext (by rw [List.length_take, List.length_drop]; omega) fun i hi => ?_
      rw [List.length_take] at hi
      rw [← hR i, List.getD_eq_getElem?_getD, List.getElem?_take, if_pos (by omega), ← List.getD_eq_getElem?_getD]
    rw [← e, List.take_append_drop]
  unfold ihd at hρ
  injection hρ with e0 hρ; injection hρ with e1 hρ; injection hρ with e2 hρ; injection hρ with e3 hρ; injection hρ with e4 hρ; injection hρ with e5 hρ; injection hρ with e6 hρ; injection hρ with e7 hρ
  have hpl := ip_len (l := l) (by omega) (by omega)
  have hpb := ip_back (m := m) ho (by omega) (by omega) hv
  rw [e0, e1, e2, e3, e4, e5, e6, e7, hm]
  have h1 : ipc (l.getD 0 0 % 64) (l.getD 1 0) (l.getD 4 0) (l.getD 5 0) (l.getD 6 0) (l.getD 7 0) (((l.length - 12 : Nat) : Int) / 256) (((l.length - 12 : Nat) : Int) % 256) (l.drop 12 ++ m) (Num ((l.drop 2).take 2)) (Num ((l.drop 8).take 4)) = 0 := by
    unfold ipc
    rw [hpl, hpb, if_neg (by rw [List.length_append, List.length_drop]; omega), show 12 + (l.length - 12) = n by omega, if_pos hf]
  exact ⟨h1, by unfold ipo; rw [if_pos h1, hpl, hpb]⟩
/-- The packets' cells in every later world. -/
theorem FS.pat {w W : World} {X B K : Nat} {ax : Option Addr} {cx : Nat} {ap : Option Addr} {cp : Nat} {h : Nat → Nat → Int} {A : Nat → Option Addr} {bs : Nat → List Int} {C : Nat → Nat} {pa : Nat → Option Addr} {pn pc : Nat → Nat} {ls : Nat → List Int} (hf : FS w W X B K ax cx ap cp h A bs C pa pn pc ls) {t : Nat} (ht : t < K) :
    ∃ g, ap = some ⟨g, 0, none⟩ ∧ g < W.heap.size ∧ W.cell? ⟨g, t, none⟩ = some (.slice (pa t) (pn t) (pc t)) := by
  rcases hf.ps.2 with ⟨hv, h0⟩ | ⟨g, cap, cur, hv, hb, hg, h1, h2, h3, h4⟩
  · omega
  · simp only [Value.slice.injEq, true_and] at hv
    obtain ⟨rfl, rfl⟩ := hv
    refine ⟨g, rfl, (Array.getElem?_eq_some_iff.1 hg).1, ?_⟩
    have hl := pcells_len pa pn pc K
    rw [cell_of_row W g _ _ _ _ hg, ← pcells_at pa pn pc K t ht, ← h4, List.getElem?_take, if_pos (by omega), Array.getElem?_toList]
theorem RR.last {w7 W : World} {PR : Nat} {K : Nat} {h : Nat → Nat → Int} {bs : Nat → List Int} {t N : Nat} {ρ : Nat → Int} {ar : Option Addr} {nr cr : Nat} {R : List Int} (hr : RR w7 W PR (hsOf K h) (bsOf K bs) t K N ρ ar nr cr R) (ht : t < K) (hH : ∀ l ∈ hsOf K h, Str.Ok l) (hB : ∀ l ∈ bsOf K bs, Str.Ok l) :
    [ρ 0, ρ 1, ρ 2, ρ 3, ρ 4, ρ 5, ρ 6, ρ 7] = [h t 0, h t 1, h t 2, h t 3, h t 4, h t 5, h t 6, h t 7] ∧ ∀ j, R.getD j 0 = (bs t).getD j 0 := by
  have e : ∀ j, j < 8 → ρ j = h t j := fun j hj => by
    have h1 := hr.hd j hj
    have h2 := rk_last (hsOf K h) hH t j (by rw [hsOf_len]; exact ht)
    rw [hsOf_len, hsOf_at ht, l8_at (h t) hj] at h2
    exact h1.trans h2
  refine ⟨by rw [e 0 (by decide), e 1 (by decide), e 2 (by decide), e 3 (by decide), e 4 (by decide), e 5 (by decide), e 6 (by decide), e 7 (by decide)], fun j => ?_⟩
  have h1 := hr.bd j
  have h2 := rk_last (bsOf K bs) hB t j (by rw [bsOf_len]; exact ht)
  rw [bsOf_len, bsOf_at ht] at h2
  exact h1.trans h2
theorem RR.start {w7 W : World} {PR K : Nat} {h : Nat → Nat → Int} {bs : Nat → List Int} {t : Nat} {g : Nat → Int} {ab : Option Addr} {nb cb : Nat} {LB : List Int} (hx : Bx W PR (g 0) (g 1) (g 2) (g 3) (g 4) (g 5) (g 6) (g 7) ab nb cb) (hb : BAt W ab nb LB) (hne : ∀ x, 0 < nb → ab = some x → x.block ≠ PR) (hg : ∀ j, (Str.all [] (hsOf K h)).getD j 0 = g j) (hl : Str.all [] (bsOf K bs) = LB) (h5 : nb ≤ 500) (hc : nb ≤ cb) (hlow : Below w7.heap.size w7 W) (hpr : w7.heap.size ≤ PR) (hH : ∀ l ∈ hsOf K h, Str.Ok l) (hB : ∀ l ∈ bsOf K bs, Str.Ok l) :
    RR w7 W PR (hsOf K h) (bsOf K bs) t 0 nb g ab nb cb LB := by
  have e1 : ∀ j, rk (hsOf K h) t 0 j = g j := fun j => by
    rw [rk_zero _ hH]; unfold xk; rw [List.take_of_length_le (Nat.le_refl _)]; exact hg j
  have e2 : ∀ j, rk (bsOf K bs) t 0 j = LB.getD j 0 := fun j => by
    rw [rk_zero _ hB]; unfold xk; rw [List.take_of_length_le (Nat.le_refl _), hl]
  refine ⟨hx, hb, hne, fun j _ => (e1 j).symm, fun j => ?_, fun j => (e2 j).symm, ⟨Nat.le_refl _, h5⟩, hc, hlow, hpr⟩
  rw [← e1 j, rk_zero _ hH]
  exact xk_byte _ hH _ _
end Go.Proofs.Ytppgjodehphaeaa


/-
  wire.Writer.
-/
import Derived.Test.YtedhmoihlfjbdaaWirePartint
import Derived.Deep.RegionLaw
import Derived.Deep.AppendLies
namespace Go.Proofs.Ytedhmoihlfjbdaa
open Go.RowKit Go.Shelf
set_option linter.unusedVariables false
/-- Block s holds a Writer: l was written. -/
structure WrAt (W : World) (s base : Nat) (a : Option Addr) (n c : Nat) (l : List Int) : Prop where
  heap : W.heap[s]? = some (.cells #[.slice a n c] 177 (0, 0))
  own : Own W base a n c l
  ne : ∀ x, a = some x → x.block ≠ s
theorem WrAt.c0 {W : World} {s base : Nat} {a : Option Addr} {n c : Nat} {l : List Int} (h : WrAt W s base a n c l) : W.cell? ⟨s, 0, none⟩ = some (.slice a n c) := by rw [cell_of_row W s 0 _ _ _ h.heap]; rfl
theorem WrAt.f0 {W : World} {s base : Nat} {a : Option Addr} {n c : Nat} {l : List Int} (h : WrAt W s base a n c l) : W.frozen? ⟨s, 0, none⟩ = false := frozen_of_row W s 0 _ _ h.heap
theorem WrAt.lt {W : World} {s base : Nat} {a : Option Addr} {n c : Nat} {l : List Int} (h : WrAt W s base a n c l) : s < W.heap.size := (Array.getElem?_eq_some_iff.1 h.heap).1
theorem WrAt.below {W W' : World} {s base : Nat} {a : Option Addr} {n c : Nat} {l : List Int} (h : WrAt W s base a n c l) (hb : Below W.heap.size W W') : WrAt W' s base a n c l :=
  ⟨(hb.block s h.lt).trans h.heap, h.own.below hb, h.ne⟩
/-- What a write leaves: l is behind what was there. -/
def WrPost (s base : Nat) (n : Nat) (l : List Int) (w : World) (r : Option Nat) (e : Ending) (w' : World) : Prop :=
  e = .returned (.tuple #[]) ∧ ∃ a' c', WrAt w' s base a' n c' l ∧ Keep2 w w' s r ∧ ∀ x, a' = some x → r = some x.block ∨ w.heap.size ≤ x.block
/-- An append to what was written, and its store: as one step. -/
theorem wr_step {W w1 : World} {s base : Nat} {a : Option Addr} {n c : Nat} {l : List Int} (h : WrAt W s base a n c l) {o : Obj} {a' : Option Addr} {m c' : Nat} {l' : List Int} (hO : Own w1 base a' m c' l') (hg : (W.alloc o).grownBy w1 (a.map (·.block))) (hl : ∀ x, a' = some x → (∃ y, a = some y ∧ x.block = y.block) ∨ x.block = (W.alloc o).heap.size) :
    WrAt (w1.setCell ⟨s, 0, none⟩ (.slice a' m c')) s base a' m c' l' ∧ Keep2 W (w1.setCell ⟨s, 0, none⟩ (.slice a' m c')) s (a.map (·.block)) ∧ ∀ x, a' = some x → a.map (·.block) = some x.block ∨ W.heap.size ≤ x.block := by
  have hlt := h.lt
  have hsr : some s ≠ a.map (·.block) := fun e => by
    cases a with
    | none => cases e
    | some y => exact h.ne y rfl (by simpa using e.symm)
  have hh1 : w1.heap[s]? = some (.cells #[.slice a n c] 177 (0, 0)) := (hg.block s (by simp; omega) hsr).trans ((Below.heap_alloc W o s hlt).trans h.heap)
  have hn1 : ∀ x, a' = some x → x.block ≠ s := fun x hx => by
    rcases hl x hx with ⟨y, hy, e⟩ | e
    · rw [e]; exact h.ne y hy
    · rw [e]; simp; omega
  refine ⟨⟨heap_setCell_same w1 s 0 _ _ _ hh1, ⟨hO.row.kept (row := some s) ⟨rfl, rfl, rfl, by simp, fun j _ hj => Below.heap_setCell w1 _ _ j (fun e => hj (by rw [e]))⟩ (by cases a' with | none => exact .inl rfl | some x => exact .inr (fun e => hn1 x rfl (by simpa [Value.ownBlock] using e))), hO.ok⟩, hn1⟩, ?_, fun x hx => ?_⟩
  · have hk1 : Keep2 W w1 s (a.map (·.block)) := ⟨hg.os, hg.tape, hg.output, by have := hg.size; simp at this; omega, fun j hj _ hr => (hg.block j (by simp; omega) hr).trans (Below.heap_alloc W o j hj)⟩
    exact hk1.trans (Keep2.setS s 0 _ none) (fun x e => by cases e)
  · rcases hl x hx with ⟨y, hy, e⟩ | e
    · exact .inl (by rw [hy, e]; rfl)
    · exact .inr (by rw [e]; simp)
theorem wdone_any (s base : Nat) (a : Option Addr) (n c : Nat) (l : List Int) (w : World) (h : WrAt w s base a n c l) (hlim : n ≤ 140737488355328) :
    Calls Try.prog 110 #[.pointer (some ⟨s, 0, none⟩)] w (NewB n l w) := by
  have hc := h.c0
  obtain ⟨a', c', w', hrun, ho, hb⟩ := append_copy w 26 a n c l h.own.bat hlim
  have HRUN := Lib.hid hrun; clear hrun
  go_enter Try.func110, Try.ntmps110
  go_wp2_with (at_builtin; refine Lib.wpList_append_run _ rfl _ _ 26 26 rfl (.slice none 0 0) (.slice a n c) (by rfl) (by rfl) _ _ HRUN.out ?_)
  go_ret
  exact ⟨_, _, rfl, ho, hb⟩
theorem shr_any (x : Int) (hx : 0 ≤ x) (i : Nat) (hi : i < 8) (w : World) : (Op.shift BinOp.shr IntKind.u64 x IntKind.i64 (IntKind.i64.wrap (8 * (i : Int)))).run Try.prog w = .ok (.int .u64 (x / 256 ^ i)) w := by
  have e : IntKind.i64.wrap (8 * (i : Int)) = 8 * (i : Int) := by rw [IntKind.wrap_i64]; omega
  rw [e]
  match i, hi with
  | 0, _ => simp [go_sem]
  | 1, _ => simp [go_sem]
  | 2, _ => simp [go_sem]
  | 3, _ => simp [go_sem]
  | 4, _ => simp [go_sem]
  | 5, _ => simp [go_sem]
  | 6, _ => simp [go_sem]
  | 7, _ => simp [go_sem]
/-- A number as k bytes, the highest first. -/
def Big (k : Nat) (x : Int) : List Int := (List.range k).map fun j => x / 256 ^ (k - 1 - j) % 256
theorem Big_len (k : Nat) (x : Int) : (Big k x).length = k := by simp [Big]
theorem Big_take (k : Nat) (x : Int) (j : Nat) (hj : j < k) : (Big k x).take j ++ [x / 256 ^ (k - 1 - j) % 256] = (Big k x).take (j + 1) := by
  rw [List.take_add_one, List.getElem?_eq_getElem (by rw [Big_len]; exact hj)]
  simp [Big]
set_option maxHeartbeats 1000000 in
set_option maxRecDepth 100000 in
theorem wnumber_any (s base : Nat) (a : Option Addr) (n c : Nat) (l : List Int) (x : Int) (k : Nat) (w : World) (h : WrAt w s base a n c l) (hx : 0 ≤ x) (hk : k ≤ 8) (hlim : n + k ≤ 140737488355328) (hbase : base ≤ w.heap.size) :
    Calls Try.prog 139 #[.pointer (some ⟨s, 0, none⟩), .int .u64 x, .int .i64 k] w (WrPost s base (n + k) (l ++ Big k x) w (a.map (·.block))) := by
  have HH := Lib.hid h; clear h
  go_enter Try.func139, Try.ntmps139
  go_wp2
  go_loopw [6] (fun i wr => ∃ (d : Int) (j m : Nat) (a' : Option Addr) (c' : Nat), -1 ≤ d ∧ j + m = k ∧ i = .int .i64 d ∧ Hid (d + 1 = (j : Int) ∧ WrAt wr s base a' (n + m) c' (l ++ (Big k x).take m) ∧ Keep2 w wr s (a.map (·.block)) ∧ ∀ y, a' = some y → a.map (·.block) = some y.block ∨ w.heap.size ≤ y.block)) (fun i _ => (intOf i + 1).toNat)
  case atStart => exact ⟨(k : Int) - 1, k, 0, a, c, by omega, rfl, rfl, Lib.hid ⟨by omega, by rw [List.take_zero, List.append_nil]; exact HH.out, Keep2.refl _ _ _, fun y hy => .inl (by rw [hy]; rfl)⟩⟩
  case round =>
    obtain ⟨d, j, m, a', c', hd, hjm, rfl, HW⟩ := hrel
    by_cases h0 : 0 ≤ d
    · obtain ⟨i, rfl⟩ : ∃ i : Nat, d = (i : Int) := ⟨d.toNat, by omega⟩
      have hji : j = i + 1 := by have := HW.out.1; omega
      have hi8 : i < 8 := by omega
      have hmk : m < k := by omega
      have hkm : k - 1 - m = i := by omega
      have hsn := Big_take k x m hmk
      rw [hkm] at hsn
      have hsh := fun w => shr_any x hx i hi8 w
      have hby : 0 ≤ x / 256 ^ i % 256 ∧ x / 256 ^ i % 256 < 256 := by omega
      have hw8 : IntKind.u8.wrap (x / 256 ^ i) = x / 256 ^ i % 256 := by simp [IntKind.wrap, IntKind.bits, IntKind.signed]
      have hc := HW.out.2.1.c0; have hf := HW.out.2.1.f0
      have hsz : base ≤ wr.heap.size := Nat.le_trans hbase HW.out.2.2.1.size
      obtain ⟨a5, c5, w5, hrun, hO5, hg5, hl5⟩ := append_bytes ((wr.alloc (.cells #[.int .u8 (x / 256 ^ i % 256)] 5)).drew) 26 base a' (n + m) c' _ (HW.out.2.1.own.below ((Below.refl _ wr).alloc (Nat.le_refl _) _).drew) (some ⟨wr.heap.size, 0, none⟩) 1 1 [x / 256 ^ i % 256] (lit_bat (l := [x / 256 ^ i % 256]) (heap_alloc_new wr _) (fun q => by cases q with | zero => exact hby | succ q => simp) (by simp)) (by omega) (by simp; omega)
      have hg5' : (wr.alloc (.cells #[.int .u8 (x / 256 ^ i % 256)] 5)).grownBy w5 (a'.map (·.block)) := ⟨hg5.os, hg5.tape, hg5.output, hg5.size, hg5.block⟩
      have hst := wr_step HW.out.2.1 hO5 hg5' hl5
      rw [List.append_assoc, hsn] at hst
      have hc5 : w5.cell? ⟨s, 0, none⟩ = some (.slice a' (n + m) c') := (hg5.cell_far ⟨s, 0, none⟩ (by have := HW.out.2.1.lt; simp; omega) (fun e => by
        cases a' with
        | none => cases e
        | some y => exact HW.out.2.1.ne y rfl (by simpa using e.symm))).trans ((World.cell?_of_block (w := wr) (a := ⟨s, 0, none⟩) (Below.heap_alloc wr _ s HW.out.2.1.lt)).trans hc)
      have hf5 : w5.frozen? ⟨s, 0, none⟩ = false := (hg5.frozen_far ⟨s, 0, none⟩ (by have := HW.out.2.1.lt; simp; omega) (fun e => by
        cases a' with
        | none => cases e
        | some y => exact HW.out.2.1.ne y rfl (by simpa using e.symm))).trans ((World.frozen?_of_block (w := wr) (a := ⟨s, 0, none⟩) (Below.heap_alloc wr _ s HW.out.2.1.lt)).trans hf)
      have hca : (wr.alloc (.cells #[.int .u8 (x / 256 ^ i % 256)] 5)).cell? ⟨s, 0, none⟩ = some (.slice a' (n + m) c') := (World.cell?_of_block (w := wr) (a := ⟨s, 0, none⟩) (Below.heap_alloc wr _ s HW.out.2.1.lt)).trans hc
      have HRUN := Lib.hid hrun; have HST := Lib.hid hst; have HJI := Lib.hid hji
      generalize x / 256 ^ i % 256 = z at *
      generalize x / 256 ^ i = zz at *
      clear hrun hst hO5 hg5 hg5' hl5 hsn hkm hji
      go_wp2_with fail
      go_region_law (first | (refine step_append_run rfl (.tmp 17) (.tmp 23) 26 26 rfl (.slice a' (n + m) c') (.slice (some ⟨wr.heap.size, 0, none⟩) 1 1) (by rfl) (by rfl) _ _ HRUN.out ?_))
      all_goals go_wp2
      all_goals
        go_roundw
        case rel =>
          obtain ⟨h1, h2, h3⟩ := HST.out
          refine ⟨(i : Int) - 1, i, m + 1, a5, c5, by omega, by have := HJI.out; omega, rfl, Lib.hid ⟨by omega, by rw [← Nat.add_assoc]; exact h1, HW.out.2.2.1.trans h2 (fun y e => by
            cases a' with
            | none => cases e
            | some t => simp at e; rw [← e]; exact HW.out.2.2.2 t rfl), fun y hy => by
            rcases h3 y hy with q | q
            · cases a' with
              | none => cases q
              | some t => simp at q; rw [← q]; exact HW.out.2.2.2 t rfl
            · exact .inr (Nat.le_trans HW.out.2.2.1.size q)⟩⟩
        case measure => simp [intOf] <;> omega
    · obtain rfl : d = -1 := by omega
      have hj0 : j = 0 := by have := HW.out.1; omega
      subst hj0
      obtain rfl : m = k := by omega
      go_wp2
      refine bodyPost_ret (v := .tuple #[]) (by simp [results, Try.results139, go_sem]) rfl ⟨rfl, a', c', ?_, HW.out.2.2.1, HW.out.2.2.2⟩
      have := HW.out.2.1
      rwa [List.take_of_length_le (by rw [Big_len]; exact Nat.le_refl _)] at this
theorem wbyte_any (s base : Nat) (a : Option Addr) (n c : Nat) (l : List Int) (x : Int) (w : World) (h : WrAt w s base a n c l) (hx : 0 ≤ x) (hx' : x ≤ 9223372036854775807) (hlim : n + 1 ≤ 140737488355328) (hbase : base ≤ w.heap.size) :
    Calls Try.prog 102 #[.pointer (some ⟨s, 0, none⟩), .int .i64 x] w (WrPost s base (n + 1) (l ++ Big 1 x) w (a.map (·.block))) := by
  have HN := Lib.hid (wnumber_any s base a n c l x 1 w h hx (by decide) hlim hbase); clear h
  go_enter Try.func102, Try.ntmps102
  go_wp2_with (go_at_call 139; refine (HN.out).mono ?_; rintro e w' ⟨rfl, h1⟩)
  exact bodyPost_end (results_none rfl _ _ _) rfl ⟨rfl, h1⟩
theorem wword_any (s base : Nat) (a : Option Addr) (n c : Nat) (l : List Int) (x : Int) (w : World) (h : WrAt w s base a n c l) (hx : 0 ≤ x) (hx' : x < 65536) (hlim : n + 2 ≤ 140737488355328) (hbase : base ≤ w.heap.size) :
    Calls Try.prog 107 #[.pointer (some ⟨s, 0, none⟩), .int .u16 x] w (WrPost s base (n + 2) (l ++ Big 2 x) w (a.map (·.block))) := by
  have HN := Lib.hid (wnumber_any s base a n c l x 2 w h hx (by decide) hlim hbase); clear h
  go_enter Try.func107, Try.ntmps107
  go_wp2_with (go_at_call 139; refine (HN.out).mono ?_; rintro e w' ⟨rfl, h1⟩)
  exact bodyPost_end (results_none rfl _ _ _) rfl ⟨rfl, h1⟩
theorem wlong_any (s base : Nat) (a : Option Addr) (n c : Nat) (l : List Int) (x : Int) (w : World) (h : WrAt w s base a n c l) (hx : 0 ≤ x) (hx' : x < 4294967296) (hlim : n + 4 ≤ 140737488355328) (hbase : base ≤ w.heap.size) :
    Calls Try.prog 105 #[.pointer (some ⟨s, 0, none⟩), .int .u32 x] w (WrPost s base (n + 4) (l ++ Big 4 x) w (a.map (·.block))) := by
  have HN := Lib.hid (wnumber_any s base a n c l x 4 w h hx (by decide) hlim hbase); clear h
  go_enter Try.func105, Try.ntmps105
  go_wp2_with (go_at_call 139; refine (HN.out).mono ?_; rintro e w' ⟨rfl, h1⟩)
  exact bodyPost_end (results_none rfl _ _ _) rfl ⟨rfl, h1⟩
/-- Put: bytes that lie elsewhere. -/
theorem wr_put {W w1 : World} {s base : Nat} {a : Option Addr} {n c : Nat} {l : List Int} (h : WrAt W s base a n c l) {a' : Option Addr} {m c' : Nat} {l' : List Int} (hO : Own w1 base a' m c' l') (hg : W.grownBy w1 (a.map (·.block))) (hl : ∀ x, a' = some x → (∃ y, a = some y ∧ x.block = y.block) ∨ x.block = W.heap.size) :
    WrAt (w1.setCell ⟨s, 0, none⟩ (.slice a' m c')) s base a' m c' l' ∧ Keep2 W (w1.setCell ⟨s, 0, none⟩ (.slice a' m c')) s (a.map (·.block)) ∧ ∀ x, a' = some x → a.map (·.block) = some x.block ∨ W.heap.size ≤ x.block := by
  have hlt := h.lt
  have hsr : some s ≠ a.map (·.block) := fun e => by
    cases a with
    | none => cases e
    | some y => exact h.ne y rfl (by simpa using e.symm)
  have hh1 : w1.heap[s]? = some (.cells #[.slice a n c] 177 (0, 0)) := (hg.block s hlt hsr).trans h.heap
  have hn1 : ∀ x, a' = some x → x.block ≠ s := fun x hx => by
    rcases hl x hx with ⟨y, hy, e⟩ | e
    · rw [e]; exact h.ne y hy
    · rw [e]; omega
  refine ⟨⟨heap_setCell_same w1 s 0 _ _ _ hh1, ⟨hO.row.kept (row := some s) ⟨rfl, rfl, rfl, by simp, fun j _ hj => Below.heap_setCell w1 _ _ j (fun e => hj (by rw [e]))⟩ (by cases a' with | none => exact .inl rfl | some x => exact .inr (fun e => hn1 x rfl (by simpa [Value.ownBlock] using e))), hO.ok⟩, hn1⟩, (Keep2.of_row hg s).trans (Keep2.setS s 0 _ none) (fun x e => by cases e), fun x hx => ?_⟩
  rcases hl x hx with ⟨y, hy, e⟩ | e
  · exact .inl (by rw [hy, e]; rfl)
  · exact .inr (by omega)
set_option maxHeartbeats 1000000 in
theorem wput_any (s base : Nat) (a : Option Addr) (n c : Nat) (l : List Int) (pa : Option Addr) (pn pc : Nat) (lp : List Int) (w : World) (h : WrAt w s base a n c l) (hb : BAt w pa pn lp) (hlim : n + pn ≤ 140737488355328) (hbase : base ≤ w.heap.size) :
    Calls Try.prog 143 #[.pointer (some ⟨s, 0, none⟩), .slice pa pn pc] w (WrPost s base (n + pn) (l ++ lp) w (a.map (·.block))) := by
  have hc := h.c0
  obtain ⟨a5, c5, w5, hrun, hO5, hg5, hl5⟩ := append_bytes w 26 base a n c l h.own pa pn pc lp hb hlim hbase
  have hst := wr_put h hO5 hg5 hl5
  have hsr : some s ≠ a.map (·.block) := fun e => by
    cases a with
    | none => cases e
    | some y => exact h.ne y rfl (by simpa using e.symm)
  have hc5 : w5.cell? ⟨s, 0, none⟩ = some (.slice a n c) := (hg5.cell_far ⟨s, 0, none⟩ h.lt hsr).trans hc
  have hf5 : w5.frozen? ⟨s, 0, none⟩ = false := (hg5.frozen_far ⟨s, 0, none⟩ h.lt hsr).trans h.f0
  have HRUN := Lib.hid hrun; have HST := Lib.hid hst
  clear hrun hst hO5 hg5 hl5 h hb
  go_enter Try.func143, Try.ntmps143
  go_wp2_with (at_builtin; refine Lib.wpList_append_run _ rfl (.tmp 8) (.tmp 9) 26 26 rfl (.slice a n c) (.slice pa pn pc) (by rfl) (by rfl) _ _ HRUN.out ?_)
  exact bodyPost_end (results_none rfl _ _ _) rfl ⟨rfl, a5, c5, HST.out⟩
end Go.Proofs.Ytedhmoihlfjbdaa

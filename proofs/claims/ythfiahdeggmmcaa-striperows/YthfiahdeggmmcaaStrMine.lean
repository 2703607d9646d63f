/-
  StripeRows: the reference's All and SameAll; the rows that the law makes of its own.
-/
import Derived.Test.YthfiahdeggmmcaaStrRef2
import Derived.Test.YthfiahdeggmmcaaStrRows
namespace Go.Proofs.Ythfiahdeggmmcaa
open Go.RowKit Go.Shelf
set_option linter.unusedVariables false
set_option maxHeartbeats 1000000 in
set_option maxRecDepth 100000 in
theorem rall_any (a : Option Addr) (len c : Nat) (ls : List (List Int)) (w : World) (h : RAt w a len ls) (hlen : len ≤ 1099511627776) (hs : ∀ l ∈ ls, l.length ≤ 500) :
    Calls Try.prog 27 #[.slice a len c] w (NewB (Str.all [] ls).length (Str.all [] ls) w) := by
  obtain ⟨b, o, av, nv, cv, hr⟩ := h.row
  have hc := h.count
  have HR := Lib.hid hr; have HC := Lib.hid hc; have HS := Lib.hid hs; clear hr hc h hs
  go_enter Try.func27, Try.ntmps27
  go_wp2
  go_loopw [3, 4] (fun s i wr => ∃ (k : Nat) (a' : Option Addr) (n' c' : Nat), k ≤ len ∧ n' ≤ 500 ∧ i = .int .i64 k ∧ s = .slice a' n' c' ∧ Hid (Own wr w.heap.size a' n' c' (Str.all [] (ls.take k)) ∧ Below w.heap.size w wr)) (fun _ i _ => len - (intOf i).toNat)
  case atStart => exact ⟨0, _, _, _, Nat.zero_le _, Nat.zero_le _, rfl, rfl, Lib.hid ⟨own_nil w _ (Nat.le_refl _), (Below.refl _ w).alloc (Nat.le_refl _) _⟩⟩
  case round =>
    obtain ⟨k, a', n', c', hk, hn, rfl, rfl, HW⟩ := hrel
    by_cases hlt : k < len
    · have hltz : (k : Int) < (len : Int) := by omega
      obtain ⟨rfl, hb, hcell, hba, hnv⟩ := HR.out k hlt
      have d : wr.cell? ⟨b, o + k, none⟩ = some (.slice (av k) (nv k) (cv k)) := (HW.out.2.cell (p := ⟨b, o + k, none⟩) hb).trans hcell
      have hbl := hba.len
      have h5 : nv k ≤ 500 := by
        rw [← hbl]
        refine HS.out _ ?_
        rw [List.getD_eq_getElem?_getD, List.getElem?_eq_getElem (by rw [HC.out]; exact hlt)]
        exact List.getElem_mem _
      have hx := rxor_any a' (av k) n' (nv k) c' (cv k) _ _ wr HW.out.1.bat (hba.below HW.out.2) (by omega) (by omega)
      rw [← Str.all_take ls k (by rw [HC.out]; exact hlt)] at hx
      generalize av k = x at d hx
      generalize nv k = y at d hx h5 hbl
      generalize cv k = z at d hx
      obtain ⟨m, hm1, hm2⟩ : ∃ m, max n' y = m ∧ m ≤ 500 := ⟨max n' y, rfl, by omega⟩
      rw [hm1] at hx
      have HX := Lib.hid hx
      clear hx hba hcell hbl hm1 hnv
      go_wp2_with (go_at_call 35; (with_reducible refine (HX.out).mono ?_); rintro e w5 ⟨a5, c5, rfl, hO5, hB5⟩; have HO5 := Lib.hid hO5; have HB5 := Lib.hid hB5; clear hO5 hB5)
      go_roundw
      case rel => exact ⟨k + 1, a5, m, c5, by omega, hm2, by go_num, rfl, Lib.hid ⟨HO5.out.mono HW.out.2.size, HW.out.2.trans (HB5.out.mono HW.out.2.size)⟩⟩
      case measure => simp [intOf]; omega
    · have hltz : ¬ (k : Int) < (len : Int) := by omega
      obtain rfl : k = len := by omega
      have hO := HW.out.1
      rw [List.take_of_length_le (by rw [HC.out]; exact Nat.le_refl _)] at hO
      have hl := hO.len
      subst hl
      have HO := Lib.hid hO; clear hO
      go_wp2
      go_ret
      exact ⟨_, _, rfl, HO.out, HW.out.2⟩
set_option maxHeartbeats 1000000 in
set_option maxRecDepth 100000 in
/-- Where both have the same rows. -/
theorem sameall_any (a1 a2 : Option Addr) (len c1 c2 : Nat) (ls : List (List Int)) (w : World) (h1 : RAt w a1 len ls) (h2 : RAt w a2 len ls) (hlen : len ≤ 1099511627776) :
    Calls Try.prog 33 #[.slice a1 len c1, .slice a2 len c2] w (Drawn (.bool true) w) := by
  obtain ⟨b1, o1, av1, nv1, cv1, r1⟩ := h1.row
  obtain ⟨b2, o2, av2, nv2, cv2, r2⟩ := h2.row
  have R1 := Lib.hid r1; have R2 := Lib.hid r2; clear r1 r2 h1 h2
  have hne : ((len : Int) != (len : Int)) = false := by simp
  go_enter Try.func33, Try.ntmps33
  go_wp2
  go_loopw [5] (fun i wr => ∃ (k m : Nat), k ≤ len ∧ i = .int .i64 k ∧ Hid (wr = w.drewN m)) (fun i _ => len - (intOf i).toNat)
  case atStart => exact ⟨0, 0, Nat.zero_le _, rfl, Lib.hid rfl⟩
  case round =>
    obtain ⟨k, m, hk, rfl, HW⟩ := hrel
    by_cases hlt : k < len
    · have hltz : (k : Int) < (len : Int) := by omega
      obtain ⟨rfl, _, d1, hb1, _⟩ := R1.out k hlt
      obtain ⟨rfl, _, d2, hb2, _⟩ := R2.out k hlt
      have e1 := hb1.len; have e2 := hb2.len
      have hs : ∀ j, Calls Try.prog 18 #[.slice (av1 k) (nv1 k) (cv1 k), .slice (av2 k) (nv2 k) (cv2 k)] (wr.drewN j) (Drawn (.bool true) (wr.drewN j)) := fun j => by
        have := same_any (av1 k) (av2 k) (nv1 k) (nv2 k) (cv1 k) (cv2 k) _ _ (wr.drewN j) (by rw [HW.out]; exact (hb1.drewN m).drewN j) (by rw [HW.out]; exact (hb2.drewN m).drewN j)
        rwa [decide_eq_true rfl] at this
      have d1 : wr.cell? ⟨b1, o1 + k, none⟩ = some (.slice (av1 k) (nv1 k) (cv1 k)) := by rw [HW.out]; exact d1
      have d2 : wr.cell? ⟨b2, o2 + k, none⟩ = some (.slice (av2 k) (nv2 k) (cv2 k)) := by rw [HW.out]; exact d2
      generalize av1 k = x1 at d1 hs
      generalize nv1 k = y1 at d1 hs
      generalize cv1 k = z1 at d1 hs
      generalize av2 k = x2 at d2 hs
      generalize nv2 k = y2 at d2 hs
      generalize cv2 k = z2 at d2 hs
      have HS := Lib.hid hs; clear hs hb1 hb2 e1 e2
      go_wp2_with fail
      go_quiet ((go_at_call 18; exact Calls.quiet_of (HS.out _)))
      go_wp2
      go_roundw
      case rel => exact ⟨k + 1, m + nq, by omega, by go_num, Lib.hid (by rw [HW.out, World.drewN_drewN])⟩
      case measure => simp [intOf]; omega
    · have hltz : ¬ (k : Int) < (len : Int) := by omega
      go_wp2
      go_ret
      exact ⟨rfl, m, HW.out⟩
/-- The state of StripeRows' loop: the Sum in block s, and the copies that were made. -/
structure MineSt (B s : Nat) (ls : List (List Int)) (L : Nat → Nat) (k : Nat) (a : Option Addr) (n c : Nat) (am : Option Addr) (cm : Nat) (A : Nat → Option Addr) (C : Nat → Nat) (W : World) : Prop where
  sum : SumAt W s B a n c (Str.all [] (ls.take k)) k
  mine : W.ownsRow B 22 1 (.slice am k cm) k ((List.range k).map fun j => .slice (A j) (L j) (C j))
  ne : ∀ y, am = some y → y.block ≠ s ∧ some y.block ≠ a.map (·.block)
  each : ∀ j, j < k → BAt W (A j) (L j) (ls.getD j []) ∧ ∀ x, 0 < L j → A j = some x → B ≤ x.block ∧ x.block ≠ s ∧ some x.block ≠ a.map (·.block) ∧ some x.block ≠ am.map (·.block)
theorem MineSt.below {B s : Nat} {ls : List (List Int)} {L : Nat → Nat} {k : Nat} {a : Option Addr} {n c : Nat} {am : Option Addr} {cm : Nat} {A : Nat → Option Addr} {C : Nat → Nat} {W W' : World}
    (h : MineSt B s ls L k a n c am cm A C W) (hb : Below W.heap.size W W') : MineSt B s ls L k a n c am cm A C W' :=
  ⟨h.sum.below hb, h.mine.kept (grown_below hb none) (by cases am <;> simp [Value.ownBlock]), h.ne, fun j hj => ⟨(h.each j hj).1.below hb, (h.each j hj).2⟩⟩
theorem MineSt.rat {B s : Nat} {ls : List (List Int)} {L : Nat → Nat} {k : Nat} {a : Option Addr} {n c : Nat} {am : Option Addr} {cm : Nat} {A : Nat → Option Addr} {C : Nat → Nat} {W : World}
    (h : MineSt B s ls L k a n c am cm A C W) (hc : ls.length = k) (hL : ∀ j, j < k → L j ≤ 500) : RAt W am k ls := rat_own h.mine hc fun j hj => ⟨(h.each j hj).1, hL j hj⟩
def upd {α : Type} (f : Nat → α) (k : Nat) (v : α) (j : Nat) : α := if j = k then v else f j
theorem upd_map (A : Nat → Option Addr) (L C : Nat → Nat) (k : Nat) (a : Option Addr) (c : Nat) : ((List.range k).map fun j => Value.slice (A j) (L j) (C j)) ++ [.slice a (L k) c] = (List.range (k + 1)).map fun j => .slice (upd A k a j) (L j) (upd C k c j) := by
  rw [List.range_succ, List.map_append]
  congr 1
  · apply List.map_congr_left
    intro j hj
    have := List.mem_range.1 hj
    simp [upd, show j ≠ k by omega]
  · simp [upd]
/-- Ahead of Add: the Sum and the new copy behind the append. -/
theorem mine_mid {B s : Nat} {ls : List (List Int)} {L : Nat → Nat} {k : Nat} {a : Option Addr} {n c : Nat} {am : Option Addr} {cm : Nat} {A : Nat → Option Addr} {C : Nat → Nat} {W w1 w2 : World} {a' : Option Addr} {c' : Nat} {o : Obj}
    (h : MineSt B s ls L k a n c am cm A C W) (h1 : Own w1 W.heap.size a' (L k) c' (ls.getD k [])) (hB1 : Below W.heap.size W w1) (hg2 : (w1.alloc o).grownBy w2 (am.map (·.block))) :
    SumAt w2 s B a n c (Str.all [] (ls.take k)) k ∧ BAt w2 a' (L k) (ls.getD k []) ∧ (0 < L k → ∀ x, a' = some x → x.block ≠ s ∧ some x.block ≠ a.map (·.block)) := by
  have hS1 := (h.sum.below hB1).below ((Below.refl _ w1).alloc (Nat.le_refl _) o)
  have hlt := h.sum.lt
  have hz1 := hB1.size
  have ham : ∀ y, am = some y → y.block < W.heap.size := fun y hy => by subst hy; exact (h.mine.lt y.block rfl).2
  have haa : ∀ y, a = some y → y.block < W.heap.size := fun y hy => (h.sum.own.blk y hy).2
  have hlow : ∀ x : Addr, x.block < W.heap.size → a' = some x → False := fun x hx e => by have := (h1.blk x e).1; omega
  refine ⟨hS1.keep hg2 (fun e => ?_) (fun x hx e => ?_), ?_, fun _ x hx => ⟨fun e => ?_, fun e => ?_⟩⟩
  · cases am with
    | none => cases e
    | some y => exact (h.ne y rfl).1 (by simpa using e.symm)
  · cases am with
    | none => cases e
    | some y => exact (h.ne y rfl).2 (by rw [hx]; simpa using e.symm)
  · refine (h1.bat.below ((Below.refl _ w1).alloc (Nat.le_refl _) o)).same hg2.size fun x h0 hx hl => hg2.block x.block hl (fun e => ?_)
    cases am with
    | none => cases e
    | some y => have := ham y rfl; exact hlow x (by simp at e; omega) hx
  · exact hlow x (by omega) hx
  · cases a with
    | none => cases e
    | some y => have := haa y rfl; exact hlow x (by simp at e; omega) hx
theorem mine_step {B s : Nat} {ls : List (List Int)} {L : Nat → Nat} {k : Nat} {a : Option Addr} {n c : Nat} {am : Option Addr} {cm : Nat} {A : Nat → Option Addr} {C : Nat → Nat} {W w1 w2 w3 : World} {a' : Option Addr} {c' : Nat} {o : Obj} {am' : Option Addr} {cm' : Nat} {a3 : Option Addr} {n3 c3 : Nat}
    (h : MineSt B s ls L k a n c am cm A C W) (hk : k < ls.length) (hBW : B ≤ W.heap.size) (h1 : Own w1 W.heap.size a' (L k) c' (ls.getD k [])) (hB1 : Below W.heap.size W w1) (hg2 : (w1.alloc o).grownBy w2 (am.map (·.block)))
    (hO2 : w2.ownsRow B 22 1 (.slice am' (k + 1) cm') (k + 1) (((List.range k).map fun j => .slice (A j) (L j) (C j)) ++ [.slice a' (L k) c']))
    (hl2 : ∀ x, am' = some x → (∃ y, am = some y ∧ x.block = y.block) ∨ x.block = (w1.alloc o).heap.size)
    (hS3 : SumAt w3 s B a3 n3 c3 (Str.xor (Str.all [] (ls.take k)) (ls.getD k [])) ((k : Int) + 1)) (hK3 : Keep2 w2 w3 s (a.map (·.block))) (hl3 : ∀ x, a3 = some x → a.map (·.block) = some x.block ∨ w2.heap.size ≤ x.block) :
    MineSt B s ls L (k + 1) a3 n3 c3 am' cm' (upd A k a') (upd C k c') w3 := by
  have hlt := h.sum.lt
  have hz1 := hB1.size
  have hz2 := hg2.size
  simp only [World.size_alloc] at hz2 hl2
  have ham : ∀ y, am = some y → y.block < W.heap.size := fun y hy => by subst hy; exact (h.mine.lt y.block rfl).2
  have haa : ∀ y, a = some y → y.block < W.heap.size := fun y hy => (h.sum.own.blk y hy).2
  -- a block of the loop's own that is neither s, nor the Sum's row, nor the copies' row
  have new3 : ∀ x : Addr, x.block ≠ s → some x.block ≠ a.map (·.block) → x.block < w1.heap.size → some x.block ≠ a3.map (·.block) := fun x h1 h2 h3 e => by
    cases a3 with
    | none => cases e
    | some y =>
      have e' : x.block = y.block := by simpa using e
      rcases hl3 y rfl with q | q
      · exact h2 (by rw [q, e'])
      · omega
  have new2 : ∀ x : Addr, some x.block ≠ am.map (·.block) → x.block < w1.heap.size → some x.block ≠ am'.map (·.block) := fun x h1 h3 e => by
    cases am' with
    | none => cases e
    | some y =>
      have e' : x.block = y.block := by simpa using e
      rcases hl2 y rfl with ⟨z, hz, q⟩ | q
      · exact h1 (by rw [hz]; simp; omega)
      · omega
  have keep : ∀ (x : Option Addr) (m : Nat) (l : List Int), BAt w1 x m l → (∀ y, 0 < m → x = some y → y.block ≠ s ∧ some y.block ≠ a.map (·.block) ∧ some y.block ≠ am.map (·.block)) → BAt w3 x m l := fun x m l hb hne => by
    have hb2 : BAt w2 x m l := (hb.below ((Below.refl _ w1).alloc (Nat.le_refl _) o)).same hg2.size fun y h0 hy hl => hg2.block y.block hl (hne y h0 hy).2.2
    exact hK3.bat hb2 (fun h0 y hy => ⟨(hne y h0 hy).1, (hne y h0 hy).2.1⟩)
  have hnew : ∀ y, a' = some y → W.heap.size ≤ y.block ∧ y.block < w1.heap.size := fun y hy => h1.blk y hy
  have hnewne : ∀ y, 0 < L k → a' = some y → y.block ≠ s ∧ some y.block ≠ a.map (·.block) ∧ some y.block ≠ am.map (·.block) := fun y _ hy => by
    have := hnew y hy
    refine ⟨by omega, fun e => ?_, fun e => ?_⟩
    · cases a with
      | none => cases e
      | some z => have := haa z rfl; simp at e; omega
    · cases am with
      | none => cases e
      | some z => have := ham z rfl; simp at e; omega
  refine ⟨?_, ?_, fun y hy => ?_, fun j hj => ?_⟩
  · rw [Str.all_take ls k hk]; exact_mod_cast hS3
  · rw [upd_map] at hO2
    refine ⟨hO2.1, ?_⟩
    rcases hO2.2 with hv | ⟨g, cap, cur, hv, hb, hg, r⟩
    · exact .inl hv
    · refine .inr ⟨g, cap, cur, hv, hb, ?_, r⟩
      have hgl := (Array.getElem?_eq_some_iff.1 hg).1
      simp only [Value.slice.injEq] at hv
      have hgne : g ≠ s ∧ some g ≠ a.map (·.block) := by
        rcases hl2 _ hv.1 with ⟨z, hz, q⟩ | q
        · have := h.ne z hz
          simp only at q
          rw [q]; exact this
        · simp only at q
          refine ⟨by omega, fun e => ?_⟩
          cases a with
          | none => cases e
          | some z => have := haa z rfl; simp at e; omega
      rw [hK3.block g hgl hgne.1 hgne.2]; exact hg
  · rcases hl2 y hy with ⟨z, hz, q⟩ | q
    · have hz' := h.ne z hz
      rw [← q] at hz'
      have := ham z hz
      exact ⟨hz'.1, new3 y hz'.1 hz'.2 (by omega)⟩
    · have hys : y.block ≠ s := by omega
      have hya : some y.block ≠ a.map (·.block) := fun e => by
        cases a with
        | none => cases e
        | some z => have := haa z rfl; simp at e; omega
      refine ⟨hys, fun e => ?_⟩
      cases a3 with
      | none => cases e
      | some z =>
        have e' : y.block = z.block := by simpa using e
        have hlt2 : y.block < w2.heap.size := by subst hy; exact (hO2.lt y.block rfl).2
        rcases hl3 z rfl with r | r
        · exact hya (by rw [r, e'])
        · omega
  · by_cases e : j = k
    · subst e
      have eA : upd A j a' j = a' := by simp [upd]
      rw [eA]
      refine ⟨keep a' (L j) _ h1.bat hnewne, fun x h0 hx => ?_⟩
      have q := hnewne x h0 hx
      have q2 := hnew x hx
      exact ⟨by omega, q.1, new3 x q.1 q.2.1 q2.2, new2 x q.2.2 q2.2⟩
    · have eA : upd A k a' j = A j := by simp [upd, e]
      rw [eA]
      obtain ⟨hb, hne⟩ := h.each j (by omega)
      refine ⟨keep (A j) (L j) _ (hb.below hB1) (fun y h0 hy => ⟨(hne y h0 hy).2.1, (hne y h0 hy).2.2.1, (hne y h0 hy).2.2.2⟩), fun x h0 hx => ?_⟩
      have q := hne x h0 hx
      have q2 := hb.lt h0 x hx
      exact ⟨q.1, q.2.1, new3 x q.2.1 q.2.2.1 (by omega), new2 x q.2.2.2 (by omega)⟩
end Go.Proofs.Ythfiahdeggmmcaa


/-
  imprint.Fold over whatever iterator.
-/
import Derived.Test.YtedhmoihlfjbdaaIbVals
import Derived.Test.YtedhmoihlfjbdaaBoxRange
import Derived.Test.YtedhmoihlfjbdaaStrRef2
import Derived.Test.YtedhmoihlfjbdaaIbRead
import Derived.ControlIn
namespace Go.Proofs.Ytedhmoihlfjbdaa
open Go.RowKit Go.Shelf
set_option linter.unusedVariables false
attribute [local go_sem] Oper.semAt_some
theorem own_same {W W' : World} {base : Nat} {a : Option Addr} {n c : Nat} {l : List Int} (h : Own W base a n c l) (hs : ∀ x, a = some x → W'.heap[x.block]? = W.heap[x.block]?) : Own W' base a n c l := by
  refine ⟨⟨h.row.1, ?_⟩, h.ok⟩
  rcases h.row.2 with h' | ⟨g, cap, cur, e, hb', hg, rest⟩
  · exact .inl h'
  · simp only [Value.slice.injEq] at e
    exact .inr ⟨g, cap, cur, by simp [e], hb', (hs _ e.1).trans hg, rest⟩
theorem SumAt.same {W W' : World} {s base : Nat} {a : Option Addr} {n c : Nat} {l : List Int} {cnt : Int} (h : SumAt W s base a n c l cnt) (h1 : W'.heap[s]? = W.heap[s]?) (h2 : ∀ x, a = some x → W'.heap[x.block]? = W.heap[x.block]?) : SumAt W' s base a n c l cnt :=
  ⟨h1.trans h.heap, own_same h.own h2, h.ne⟩
theorem wpIn_nopanic {F : Fence} {n : Nat} {P : Program} {c : Code} {K : Act → World → Prop} {Q : Exit → Act → World → Prop} {a : Act} {w : World} (h : c.wpIn F n P (Exit.then K (fun _ _ _ => False)) a w) : c.wpIn F n P (Exit.then K Q) a w :=
  wpIn_mono h (fun e a w h => by cases e <;> first | exact h | exact h.elim)
/-- The box of a round's imprint. -/
def asgB (x : Array Value) (W : World) : World := match x.getD 0 undef with
  | .agg cs => W.alloc (.cells cs 57)
  | _ => W
theorem asgB_grown (x : Array Value) (W : World) : W.grownBy (asgB x W) none := by
  unfold asgB
  split
  · exact grown_alloc W _
  · exact grown_refl W _
/-- In front of round k: the two sums, and the result's box. -/
structure IFI (w : World) (B : Nat) (hs bs : List (List Int)) (k : Nat) (W : World) : Prop where
  sums : ∃ a c a' c', SumAt W (w.heap.size + 1) B a (Str.all [] (hs.take k)).length c (Str.all [] (hs.take k)) k ∧ SumAt W (w.heap.size + 2) B a' (Str.all [] (bs.take k)).length c' (Str.all [] (bs.take k)) k ∧ (∀ x y, a = some x → a' = some y → x.block ≠ y.block)
  rs : W.heap[w.heap.size]? = some (.cells #[.int .u8 0, .int .u8 0, .int .u8 0, .int .u8 0, .int .u8 0, .int .u8 0, .int .u8 0, .int .u8 0, .slice none 0 0] 57 (0, 0))
  low : Below w.heap.size w W
theorem IFI.grown {w : World} {B m : Nat} {hs bs : List (List Int)} (hB : B = w.heap.size + 5 + m) : Stays (w.heap.size + 3) (w.heap.size + 3 + 2 + m) (IFI w B hs bs) := by
  rintro s A C row ⟨⟨a, c, a', c', h1, h2, h3⟩, hr, hb⟩ hg hrow
  refine ⟨⟨a, c, a', c', h1.keep hg (fun e => by have := hrow _ e.symm; omega) (fun x hx e => by have := hrow _ e.symm; have := (h1.own.blk x hx).1; omega), h2.keep hg (fun e => by have := hrow _ e.symm; omega) (fun x hx e => by have := hrow _ e.symm; have := (h2.own.blk x hx).1; omega), h3⟩,
    (hg.block _ (Array.getElem?_eq_some_iff.1 hr).1 (fun e => by have := hrow _ e.symm; omega)).trans hr, hb.grown hg hb.size (fun k e => by have := hrow _ e; omega)⟩
/-- What Fold is told of an iterator. -/
def IFoldsTo (w0 : World) (R : Nat → Array Value → World → World → Prop) (hs bs : List (List Int)) : Prop :=
  ∀ k v Wp W, k < hs.length → Below w0.heap.size w0 Wp → Below w0.heap.size w0 W → w0.heap.size < Wp.heap.size → R k v Wp W →
    ∃ (hh : Nat → Int) (pa : Option Addr) (pn pc : Nat), v = #[.agg #[.int .u8 (hh 0), .int .u8 (hh 1), .int .u8 (hh 2), .int .u8 (hh 3), .int .u8 (hh 4), .int .u8 (hh 5), .int .u8 (hh 6), .int .u8 (hh 7), .slice pa pn pc]] ∧ hs.getD k [] = [hh 0, hh 1, hh 2, hh 3, hh 4, hh 5, hh 6, hh 7] ∧ (∀ j, 0 ≤ hh j ∧ hh j < 256) ∧ pn ≤ 140737488355328 ∧ BAt W pa pn (bs.getD k []) ∧ ∀ x, 0 < pn → pa = some x → x.block < w0.heap.size ∨ Wp.heap.size ≤ x.block
/-- What Fold gives. -/
def IFoldOut (hs bs : List (List Int)) (w : World) (e : Ending) (w' : World) : Prop :=
  ∃ ab cb, e = .returned (.agg #[.int .u8 ((Str.all [] hs).getD 0 0), .int .u8 ((Str.all [] hs).getD 1 0), .int .u8 ((Str.all [] hs).getD 2 0), .int .u8 ((Str.all [] hs).getD 3 0), .int .u8 ((Str.all [] hs).getD 4 0), .int .u8 ((Str.all [] hs).getD 5 0), .int .u8 ((Str.all [] hs).getD 6 0), .int .u8 ((Str.all [] hs).getD 7 0), .slice ab (Str.all [] bs).length cb]) ∧ Own w' w.heap.size ab (Str.all [] bs).length cb (Str.all [] bs) ∧ Below w.heap.size w w'
set_option maxHeartbeats 1000000 in
set_option maxRecDepth 100000 in
theorem ifold_any (w : World) (gf : Nat) (lb : Array Value) (R : Nat → Array Value → World → World → Prop) (hs bs : List (List Int)) (m : Nat) (Pre : World → Prop) (hlen : bs.length = hs.length)
    (hseq : SeqRel Fence.wide 3 Try.prog gf lb R hs.length m Pre) (hent : Enters Try.prog gf)
    (hnil : ∀ w, (binOp .eql 112 (.func (.func gf) #[] lb) .nilFunc).run Try.prog w = .ok (.bool false) w)
    (hF : IFoldsTo w R hs bs) (hRs : ∀ x Wp lo hi, w.heap.size ≤ lo → hi ≤ Wp.heap.size → Stays lo hi (fun k W => R k x Wp W)) (hsz : ∀ k x Wp W, R k x Wp W → ∃ (hh : Nat → Int) (pa : Option Addr) (pn pc : Nat), x = #[.agg #[.int .u8 (hh 0), .int .u8 (hh 1), .int .u8 (hh 2), .int .u8 (hh 3), .int .u8 (hh 4), .int .u8 (hh 5), .int .u8 (hh 6), .int .u8 (hh 7), .slice pa pn pc]]) (hPre : ∀ W, Below w.heap.size w W → Pre W) (hcnt : hs.length ≤ 1099511627776) (hb8 : (Str.all [] bs).length ≤ 100000000) (hh8 : (Str.all [] hs).length = 8 ∨ Str.all [] hs = []) :
    Calls Try.prog 57 #[.func (.func gf) #[] lb] w (IFoldOut hs bs w) := by
  have HSEQ := Lib.hid hseq; have HF := Lib.hid hF; have HSZ := Lib.hid hsz; have HRS := Lib.hid hRs; have HPRE := Lib.hid hPre; have HLEN := Lib.hid hlen
  clear hseq hF hsz hRs hPre hlen
  refine (callsIn_wide (n := 4)).1 ?_
  refine callsIn_of_wp_marks Try.func57 rfl trivial ?_ rfl
  simp only [Try.ntmps57, List.size_toArray, List.length_cons, List.length_nil, Nat.reduceAdd, Nat.reduceSub, Array.replicate_succ, Array.replicate_zero, List.push_toArray, List.append_toArray, List.nil_append, List.cons_append]
  gi_wp2
  obtain ⟨W0, hW0⟩ : ∃ W0, ((w.alloc (.cells #[.int .u8 0, .int .u8 0, .int .u8 0, .int .u8 0, .int .u8 0, .int .u8 0, .int .u8 0, .int .u8 0, .slice none 0 0] 57)).alloc (.cells #[.slice none 0 0, .int .i64 0] 162)).alloc (.cells #[.slice none 0 0, .int .i64 0] 162) = W0 := ⟨_, rfl⟩
  have hz0 : W0.heap.size = w.heap.size + 3 := by rw [← hW0]; simp
  have hI0 : IFI w (w.heap.size + 5 + m) hs bs 0 W0 := by
    refine ⟨⟨none, 0, none, 0, ⟨?_, ⟨World.ownsRow_nil _ _ _ _, Str.ok_nil⟩, fun x hx => by cases hx⟩, ⟨?_, ⟨World.ownsRow_nil _ _ _ _, Str.ok_nil⟩, fun x hx => by cases hx⟩, fun x y hx => by cases hx⟩, ?_, ?_⟩
    · rw [← hW0]; exact lit_old (by simp)
    · rw [← hW0]; exact lit_new (by simp)
    · rw [← hW0, Below.heap_alloc _ _ _ (by simp; omega), Below.heap_alloc _ _ _ (by simp)]; exact heap_alloc_new w _
    · rw [← hW0]; exact (((Below.refl _ w).alloc (Nat.le_refl _) _).alloc (by simp) _).alloc (by simp; omega) _
  rw [hW0]
  clear hW0
  refine wp_range_box rfl (by omega) (gf := gf) (lb := lb) rfl trivial hent HSEQ.out
    (fun k x Wp W h => by obtain ⟨hh, pa, pn, pc, rfl⟩ := HSZ.out k x Wp W h; rfl) (fun x Wp hWp => HRS.out x Wp _ _ (by omega) hWp)
    (IFI w (w.heap.size + 5 + m) hs bs) (fun _ _ _ => False) (by rw [hz0]; exact IFI.grown rfl) (fun _ _ _ _ _ h _ _ => h) (fun k W h => HPRE.out W h.low) hI0
    (fun x W => { tmps := #[.func (.func gf) #[] lb, undef, .pointer (some ⟨w.heap.size, 0, none⟩), .pointer (some ⟨w.heap.size + 1, 0, none⟩), .pointer (some ⟨w.heap.size + 1 + 1, 0, none⟩), .pointer (some ⟨W.heap.size, 0, none⟩), undef, .func (.func gf) #[] lb, .bool false, undef, .func (.func gf) #[] lb, x.getD 0 undef, undef, undef, undef, undef, undef, undef, undef, undef, undef, undef, undef, undef, undef], defers := [] }) asgB asgB_grown
    ?assign ?body ?done ?stop
  case assign =>
    intro l k x Wp W K hRx hK
    obtain ⟨hh, pa, pn, pc, rfl⟩ := HSZ.out k x Wp W hRx
    gi_wp2
    exact hK
  case body =>
    rintro l k x Wp Wq W hk hIp hpq hqw hz hRx hI hsz'
    obtain ⟨⟨ap, cp, ap', cp', hS1p, hS2p, hsepp⟩, hrsp, hbp⟩ := hIp
    obtain ⟨⟨a, c, a', c', hS1, hS2, hsep⟩, hrs, hb⟩ := hI
    obtain ⟨hh, pa, pn, pc, rfl, hhd, hbd, hpn, hba, hblk⟩ := HF.out k x Wp W hk hbp hb (by omega) hRx
    have hag : asgB #[.agg #[.int .u8 (hh 0), .int .u8 (hh 1), .int .u8 (hh 2), .int .u8 (hh 3), .int .u8 (hh 4), .int .u8 (hh 5), .int .u8 (hh 6), .int .u8 (hh 7), .slice pa pn pc]] Wq = Wq.alloc (.cells #[.int .u8 (hh 0), .int .u8 (hh 1), .int .u8 (hh 2), .int .u8 (hh 3), .int .u8 (hh 4), .int .u8 (hh 5), .int .u8 (hh 6), .int .u8 (hh 7), .slice pa pn pc] 57) := rfl
    rw [hag] at hqw hz
    have hWq := hpq.size
    have hzz : W.heap.size = Wq.heap.size + 1 := by rw [hz]; simp
    have hbox : W.heap[Wq.heap.size]? = some (.cells #[.int .u8 (hh 0), .int .u8 (hh 1), .int .u8 (hh 2), .int .u8 (hh 3), .int .u8 (hh 4), .int .u8 (hh 5), .int .u8 (hh 6), .int .u8 (hh 7), .slice pa pn pc] 57 (0, 0)) := (hqw.block _ (by simp) (by intro e; simp at e; omega)).trans (heap_alloc_new Wq _)
    have hold : ∀ j, j < Wp.heap.size → j ≠ W0.heap.size + 1 → W.heap[j]? = Wp.heap[j]? := fun j hj hne => (hqw.block j (by simp; omega) (by intro e; simp at e; omega)).trans ((heap_alloc_old Wq _ (by omega)).trans (hpq.block j hj (by simp)))
    have q1 := hold (w.heap.size + 1) hS1p.lt (by omega)
    rw [hS1p.heap, hS1.heap] at q1
    have q2 := hold (w.heap.size + 2) hS2p.lt (by omega)
    rw [hS2p.heap, hS2.heap] at q2
    obtain rfl : a = ap := by simp at q1; exact q1.1
    obtain rfl : a' = ap' := by simp at q2; exact q2.1
    have ba : ∀ y, a = some y → w.heap.size + 5 + m ≤ y.block ∧ y.block < Wp.heap.size := fun y hy => ⟨(hS1.own.blk y hy).1, (hS1p.own.blk y hy).2⟩
    have ba' : ∀ y, a' = some y → w.heap.size + 5 + m ≤ y.block ∧ y.block < Wp.heap.size := fun y hy => ⟨(hS2.own.blk y hy).1, (hS2p.own.blk y hy).2⟩
    have hbt : BAt W (some ⟨Wq.heap.size, 0, none⟩) 8 (hs.getD k []) := by
      rw [hhd]
      refine ⟨rfl, by omega, Wq.heap.size, 0, fun i hi => ?_⟩
      have hlt := (Array.getElem?_eq_some_iff.1 hbox).1
      match i, hi with
      | 0, _ => exact ⟨rfl, hlt, by rw [cell_of_row W _ _ _ _ _ hbox]; rfl, hbd 0⟩
      | 1, _ => exact ⟨rfl, hlt, by rw [cell_of_row W _ _ _ _ _ hbox]; rfl, hbd 1⟩
      | 2, _ => exact ⟨rfl, hlt, by rw [cell_of_row W _ _ _ _ _ hbox]; rfl, hbd 2⟩
      | 3, _ => exact ⟨rfl, hlt, by rw [cell_of_row W _ _ _ _ _ hbox]; rfl, hbd 3⟩
      | 4, _ => exact ⟨rfl, hlt, by rw [cell_of_row W _ _ _ _ _ hbox]; rfl, hbd 4⟩
      | 5, _ => exact ⟨rfl, hlt, by rw [cell_of_row W _ _ _ _ _ hbox]; rfl, hbd 5⟩
      | 6, _ => exact ⟨rfl, hlt, by rw [cell_of_row W _ _ _ _ _ hbox]; rfl, hbd 6⟩
      | 7, _ => exact ⟨rfl, hlt, by rw [cell_of_row W _ _ _ _ _ hbox]; rfl, hbd 7⟩
    have hbW : w.heap.size + 5 + m ≤ W.heap.size := by omega
    have hadd := sumadd_any (w.heap.size + 1) (w.heap.size + 5 + m) a _ c _ k (some ⟨Wq.heap.size, 0, none⟩) 8 8 _ W hS1 hbt (fun _ x hx => by
      cases hx
      refine ⟨by show Wq.heap.size ≠ _; omega, fun e => ?_⟩
      cases a with
      | none => cases e
      | some y => have := (ba y rfl).2; simp at e; omega) (by omega) (by omega) (by omega) hbW
    have HADD := Lib.hid hadd
    have hall := Str.all_take hs k hk
    have hall' := Str.all_take bs k (by have := HLEN.out; omega)
    have HALL := Lib.hid hall; have HALL' := Lib.hid hall'
    clear hadd hall hall' hRx q1 q2 hpq hqw hag hS1p hS2p hsepp hrsp hbp
    have HS2 := Lib.hid hS2; have HRS0 := Lib.hid hrs; have HB0 := Lib.hid hb; have HBOX := Lib.hid hbox; have HBA := Lib.hid hba; have HSEP := Lib.hid hsep; have HS1 := Lib.hid hS1
    clear hS2 hrs hb hbox hba hsep hS1 hold
    gi_wp2_with fail
    refine ⟨trivial, (callsIn_wide.2 HADD.out).mono ?_⟩
    rintro e w1 ⟨rfl, a1, c1, hS1', hK1, hloc1⟩
    have na : ∀ j, (∀ y, a = some y → y.block ≠ j) → some j ≠ a.map (·.block) := fun j hj e => by
      cases a with
      | none => cases e
      | some y => simp at e; exact hj y rfl e.symm
    have hbox1 : w1.heap[Wq.heap.size]? = some (.cells #[.int .u8 (hh 0), .int .u8 (hh 1), .int .u8 (hh 2), .int .u8 (hh 3), .int .u8 (hh 4), .int .u8 (hh 5), .int .u8 (hh 6), .int .u8 (hh 7), .slice pa pn pc] 57 (0, 0)) := (hK1.block _ (by omega) (by omega) (na _ (fun y hy => by have := ba y hy; omega))).trans HBOX.out
    have x8 : w1.cell? ⟨Wq.heap.size, 8, none⟩ = some (.slice pa pn pc) := by rw [cell_of_row w1 _ 8 _ _ _ hbox1]; rfl
    have hS2' : SumAt w1 (w.heap.size + 2) (w.heap.size + 5 + m) a' _ c' _ k := HS2.out.same (hK1.block _ (by omega) (by omega) (na _ (fun y hy => by have := ba y hy; omega))) (fun x hx => hK1.block _ (by have := ba' x hx; omega) (by have := ba' x hx; omega) (na _ (fun y hy => HSEP.out y x hy hx)))
    have hrs1 := (hK1.block w.heap.size (by omega) (by omega) (na _ (fun y hy => by have := ba y hy; omega))).trans HRS0.out
    have hba1 : BAt w1 pa pn (bs.getD k []) := hK1.bat HBA.out (fun h0 x hx => by
      rcases hblk x h0 hx with h | h
      · exact ⟨by omega, na _ (fun y hy => by have := ba y hy; omega)⟩
      · exact ⟨by omega, na _ (fun y hy => by have := ba y hy; omega)⟩)
    have hb1 : Below w.heap.size w w1 := HB0.out.trans (hK1.below (by omega) (fun x e => by
      cases a with
      | none => cases e
      | some y => have := ba y rfl; simp at e; omega) (by omega))
    have hl1 : ∀ y, a1 = some y → w.heap.size + 5 + m ≤ y.block ∧ y.block < w1.heap.size := fun y hy => hS1'.own.blk y hy
    have hsep1 : ∀ x y, a1 = some x → a' = some y → x.block ≠ y.block := fun x y hx hy => by
      rcases hloc1 x hx with h | h
      · cases a with
        | none => cases h
        | some z => simp at h; rw [← h]; exact HSEP.out z y rfl hy
      · have := ba' y hy; omega
    have na' : ∀ j, (∀ y, a' = some y → y.block ≠ j) → some j ≠ a'.map (·.block) := fun j hj e => by
      cases a' with
      | none => cases e
      | some y => simp at e; exact hj y rfl e.symm
    have hsz1 := hK1.size
    have HADD2 := Lib.hid (sumadd_any (w.heap.size + 2) (w.heap.size + 5 + m) a' _ c' _ k pa pn pc _ w1 hS2' hba1 (fun h0 x hx => by
      rcases hblk x h0 hx with h | h
      · exact ⟨by omega, na' _ (fun y hy => by have := ba' y hy; omega)⟩
      · exact ⟨by omega, na' _ (fun y hy => by have := ba' y hy; omega)⟩) (by omega) (by omega) hpn (by omega))
    have hkin1 : KeepsIn W0.heap.size (W0.heap.size + 2 + m) W w1 := ⟨hsz1, fun r h1 h2 => hK1.block r (by omega) (by omega) (na _ (fun y hy => by have := ba y hy; omega))⟩
    have HS1' := Lib.hid hS1'; have HRS1 := Lib.hid hrs1; have HB1 := Lib.hid hb1; have HSEP1 := Lib.hid hsep1; have HKI1 := Lib.hid hkin1; have HBA1 := Lib.hid hba1
    clear hS1' hS2' hrs1 hb1 hsep1 hkin1 hba1 HS2 HRS0 HB0 HBOX HBA HSEP HS1 HADD hK1 hloc1 hbox1
    gi_wp2_with fail
    refine ⟨trivial, (callsIn_wide.2 HADD2.out).mono ?_⟩
    rintro e w2 ⟨rfl, a2, c2, hS2'', hK2, hloc2⟩
    gi_wp2_with fail
    have hkin2 : KeepsIn W0.heap.size (W0.heap.size + 2 + m) w1 w2 := ⟨hK2.size, fun r h1 h2 => hK2.block r (by omega) (by omega) (na' _ (fun y hy => by have := ba' y hy; omega))⟩
    have hS1'' : SumAt w2 (w.heap.size + 1) (w.heap.size + 5 + m) a1 _ c1 _ (k + 1) := HS1'.out.same (hK2.block _ (by omega) (by omega) (na' _ (fun y hy => by have := ba' y hy; omega))) (fun x hx => hK2.block _ (hl1 x hx).2 (by have := hl1 x hx; omega) (na' _ (fun y hy e => HSEP1.out x y hx hy e.symm)))
    have hrs2 := (hK2.block w.heap.size (by omega) (by omega) (na' _ (fun y hy => by have := ba' y hy; omega))).trans HRS1.out
    have hb2 : Below w.heap.size w w2 := HB1.out.trans (hK2.below (by omega) (fun x e => by
      cases a' with
      | none => cases e
      | some y => have := ba' y rfl; simp at e; omega) (by omega))
    have hsep2 : ∀ x y, a1 = some x → a2 = some y → x.block ≠ y.block := fun x y hx hy => by
      rcases hloc2 y hy with h | h
      · cases a' with
        | none => cases h
        | some z => simp at h; rw [← h]; exact HSEP1.out x z hx rfl
      · have := hl1 x hx; omega
    have hbl := HBA1.out.len
    have hhl : (hs.getD k []).length = 8 := by rw [hhd]; rfl
    refine ⟨HKI1.out.trans hkin2, ⟨⟨a1, c1, a2, c2, ?_, ?_, hsep2⟩, hrs2, hb2⟩⟩
    · rw [HALL.out, Str.xor_len, hhl]; exact hS1''
    · rw [HALL'.out, Str.xor_len, hbl]; exact hS2''
  case done =>
    rintro W ⟨⟨a, c, a', c', hS1, hS2, hsep⟩, hrs, hb⟩ hK
    rw [List.take_length] at hS1
    rw [← HLEN.out, List.take_length] at hS2
    have HS1 := Lib.hid hS1; have HS2 := Lib.hid hS2; have HRS0 := Lib.hid hrs; have HB := Lib.hid hb; have HK := Lib.hid hK
    clear hS1 hS2 hsep hrs hb hK
    gi_wp2_with fail
    refine ⟨trivial, (callsIn_wide.2 (bytes_any _ _ a' _ c' _ _ W HS2.out (by omega))).mono ?_⟩
    rintro e w1 ⟨ab, cb, rfl, hOb, hBb⟩
    have hS1' := HS1.out.same (hBb.block _ HS1.out.lt) (fun x hx => hBb.block _ (HS1.out.own.blk x hx).2)
    have hrs1 := (hBb.block _ (Array.getElem?_eq_some_iff.1 HRS0.out).1).trans HRS0.out
    have hK1 := (hBb.block _ (Array.getElem?_eq_some_iff.1 HK.out).1).trans HK.out
    have hb1 := HB.out.trans (hBb.mono HB.out.size)
    have hWz : w.heap.size + 3 < W.heap.size := by have := (Array.getElem?_eq_some_iff.1 HK.out).1; omega
    have HOB := Lib.hid hOb; have HS1' := Lib.hid hS1'; have HRS1 := Lib.hid hrs1; have HK1 := Lib.hid hK1; have HB1 := Lib.hid hb1
    clear hOb hBb hS1' hrs1 hK1 hb1 HS1 HS2 HRS0 HB HK
    obtain ⟨nb, hnb⟩ : ∃ nb, (Str.all [] bs).length = nb := ⟨_, rfl⟩
    rw [hnb] at HOB hb8
    rw [hnb]
    have HNB := Lib.hid hnb; clear hnb
    gi_wp2_with fail
    obtain ⟨H, hH⟩ : ∃ H, Str.all [] hs = H := ⟨_, rfl⟩
    rw [hH] at HS1' hh8
    have HH := Lib.hid hH; clear hH
    have HQ : ∃ q0 q1 q2 q3 q4 q5 q6 q7, Hid (H.getD 0 0 = q0 ∧ H.getD 1 0 = q1 ∧ H.getD 2 0 = q2 ∧ H.getD 3 0 = q3 ∧ H.getD 4 0 = q4 ∧ H.getD 5 0 = q5 ∧ H.getD 6 0 = q6 ∧ H.getD 7 0 = q7) := ⟨_, _, _, _, _, _, _, _, Lib.hid ⟨rfl, rfl, rfl, rfl, rfl, rfl, rfl, rfl⟩⟩
    obtain ⟨q0, q1, q2, q3, q4, q5, q6, q7, HQ⟩ := HQ
    obtain ⟨wX, hwX⟩ : ∃ wX, w1.alloc (.cells #[.int .u8 0, .int .u8 0, .int .u8 0, .int .u8 0, .int .u8 0, .int .u8 0, .int .u8 0, .int .u8 0, .slice ab nb cb] 57) = wX := ⟨_, rfl⟩
    have hBX : Below w1.heap.size w1 wX := by rw [← hwX]; exact (Below.refl _ w1).alloc (Nat.le_refl _) _
    have hrX : wX.heap[w1.heap.size]? = some (.cells #[.int .u8 0, .int .u8 0, .int .u8 0, .int .u8 0, .int .u8 0, .int .u8 0, .int .u8 0, .int .u8 0, .slice ab nb cb] 57 (0, 0)) := by rw [← hwX]; exact lit_new rfl
    rw [hwX]
    have hSX := HS1'.out.same (hBX.block _ HS1'.out.lt) (fun x hx => hBX.block _ (HS1'.out.own.blk x hx).2)
    have HDN : Hid (∀ W', Below wX.heap.size wX W' → Calls Try.prog 92 #[.pointer (some ⟨w.heap.size + 1, 0, none⟩)] W' (NewB H.length H W')) := Lib.hid fun W' hW' => bytes_any _ _ a _ c _ _ W' (hSX.same (hW'.block _ hSX.lt) (fun x hx => hW'.block _ (hSX.own.blk x hx).2)) (by rcases hh8 with h | h <;> simp [h])
    have HRX := Lib.hid hrX; have HBX := Lib.hid hBX
    clear hwX hrX hSX
    have hBD : Below wX.heap.size wX wX.drew := (Below.refl _ wX).drew
    have hmin : (H.map (Value.int .u8)).length = Nat.min H.length 8 := by
      rcases hh8 with h | h
      · simp [h]
      · simp [h]
    have hfit : 0 + (H.map (Value.int .u8)).length ≤ ([.int .u8 0, .int .u8 0, .int .u8 0, .int .u8 0, .int .u8 0, .int .u8 0, .int .u8 0, .int .u8 0, .slice ab nb cb] : List Value).length := by
      rcases hh8 with h | h
      · simp [h]
      · simp [h]
    refine wpIn_nopanic (wpIn_wide.2 ?_)
    go_region_law (first
      | (refine step_copy_splice rfl (.tmp 21) (.tmp 22) 26 26 rfl 5 rfl hsz8 (some ⟨w1.heap.size, 0, none⟩) a13 8 8 H.length c13 (by rfl) (by rfl) w1.heap.size 0 [.int .u8 0, .int .u8 0, .int .u8 0, .int .u8 0, .int .u8 0, .int .u8 0, .int .u8 0, .int .u8 0, .slice ab nb cb] 57 HR13.out (H.map (Value.int .u8)) hmin (fun h0 => ⟨rfl, HSRC.out (by simpa using h0)⟩) hfit (by intro v hv; simp only [List.mem_map] at hv; obtain ⟨z, _, rfl⟩ := hv; rfl) w1.heap.size w1 HB13.out (Nat.le_refl _) ?_; intro w14 hg14 hb14)
      | (go_simp; go_at_call 92; refine (HDN.out _ hBD).mono ?_; rintro e w13 ⟨a13, c13, rfl, hO13, hB13⟩; have HSRC := Lib.hid (fun h => own_src hO13 h); have HR13 := Lib.hid (((hBD.trans hB13).block _ (Array.getElem?_eq_some_iff.1 HRX.out).1).trans HRX.out); have HB13 := Lib.hid (hBX.trans ((hBD.trans hB13).mono hBX.size)); clear hO13 hB13))
    have hrow : w14.heap[w1.heap.size]? = some (.cells #[.int .u8 q0, .int .u8 q1, .int .u8 q2, .int .u8 q3, .int .u8 q4, .int .u8 q5, .int .u8 q6, .int .u8 q7, .slice ab nb cb] 57 (0, 0)) := by
      rw [hg14.out, ← HQ.out.1, ← HQ.out.2.1, ← HQ.out.2.2.1, ← HQ.out.2.2.2.1, ← HQ.out.2.2.2.2.1, ← HQ.out.2.2.2.2.2.1, ← HQ.out.2.2.2.2.2.2.1, ← HQ.out.2.2.2.2.2.2.2]
      rcases hh8 with h | h
      · match H, h with
        | [_, _, _, _, _, _, _, _], _ => rfl
      · rw [h]; rfl
    have hz1 : w.heap.size < w1.heap.size := (Array.getElem?_eq_some_iff.1 HRS1.out).1
    have hrs14 := (hb14.block _ hz1).trans HRS1.out
    have hK14 := (hb14.block _ (Array.getElem?_eq_some_iff.1 HK1.out).1).trans HK1.out
    clear hg14 hBD HDN HR13 HB13 HSRC HRX HBX hBX hmin hfit
    have g0 : w14.cell? ⟨w1.heap.size, 0, none⟩ = some (.int .u8 q0) := by rw [cell_of_row w14 _ 0 _ _ _ hrow]; rfl
    have g1 : w14.cell? ⟨w1.heap.size, 1, none⟩ = some (.int .u8 q1) := by rw [cell_of_row w14 _ 1 _ _ _ hrow]; rfl
    have g2 : w14.cell? ⟨w1.heap.size, 2, none⟩ = some (.int .u8 q2) := by rw [cell_of_row w14 _ 2 _ _ _ hrow]; rfl
    have g3 : w14.cell? ⟨w1.heap.size, 3, none⟩ = some (.int .u8 q3) := by rw [cell_of_row w14 _ 3 _ _ _ hrow]; rfl
    have g4 : w14.cell? ⟨w1.heap.size, 4, none⟩ = some (.int .u8 q4) := by rw [cell_of_row w14 _ 4 _ _ _ hrow]; rfl
    have g5 : w14.cell? ⟨w1.heap.size, 5, none⟩ = some (.int .u8 q5) := by rw [cell_of_row w14 _ 5 _ _ _ hrow]; rfl
    have g6 : w14.cell? ⟨w1.heap.size, 6, none⟩ = some (.int .u8 q6) := by rw [cell_of_row w14 _ 6 _ _ _ hrow]; rfl
    have g7 : w14.cell? ⟨w1.heap.size, 7, none⟩ = some (.int .u8 q7) := by rw [cell_of_row w14 _ 7 _ _ _ hrow]; rfl
    have g8 : w14.cell? ⟨w1.heap.size, 8, none⟩ = some (.slice ab nb cb) := by rw [cell_of_row w14 _ 8 _ _ _ hrow]; rfl
    have y0 : w14.cell? ⟨w.heap.size, 0, none⟩ = some (.int .u8 0) := by rw [cell_of_row w14 _ 0 _ _ _ hrs14]; rfl
    have y1 : w14.cell? ⟨w.heap.size, 1, none⟩ = some (.int .u8 0) := by rw [cell_of_row w14 _ 1 _ _ _ hrs14]; rfl
    have y2 : w14.cell? ⟨w.heap.size, 2, none⟩ = some (.int .u8 0) := by rw [cell_of_row w14 _ 2 _ _ _ hrs14]; rfl
    have y3 : w14.cell? ⟨w.heap.size, 3, none⟩ = some (.int .u8 0) := by rw [cell_of_row w14 _ 3 _ _ _ hrs14]; rfl
    have y4 : w14.cell? ⟨w.heap.size, 4, none⟩ = some (.int .u8 0) := by rw [cell_of_row w14 _ 4 _ _ _ hrs14]; rfl
    have y5 : w14.cell? ⟨w.heap.size, 5, none⟩ = some (.int .u8 0) := by rw [cell_of_row w14 _ 5 _ _ _ hrs14]; rfl
    have y6 : w14.cell? ⟨w.heap.size, 6, none⟩ = some (.int .u8 0) := by rw [cell_of_row w14 _ 6 _ _ _ hrs14]; rfl
    have y7 : w14.cell? ⟨w.heap.size, 7, none⟩ = some (.int .u8 0) := by rw [cell_of_row w14 _ 7 _ _ _ hrs14]; rfl
    have y8 : w14.cell? ⟨w.heap.size, 8, none⟩ = some (.slice none 0 0) := by rw [cell_of_row w14 _ 8 _ _ _ hrs14]; rfl
    have fB : ∀ o, w14.frozen? ⟨w.heap.size, o, none⟩ = false := fun o => frozen_of_row w14 _ o _ _ hrs14
    have HX14 := Lib.hid hrs14; have HB14 := Lib.hid hb14; have HK14 := Lib.hid hK14
    clear hrs14 hb14 hrow hK14
    gi_wp2_with fail
    obtain ⟨w15, hw15⟩ : ∃ w15, putL w14 w.heap.size 0 [.int .u8 q0, .int .u8 q1, .int .u8 q2, .int .u8 q3, .int .u8 q4, .int .u8 q5, .int .u8 q6, .int .u8 q7, .slice ab nb cb] = w15 := ⟨_, rfl⟩
    have P15 : Put w14 w15 w.heap.size #[.int .u8 q0, .int .u8 q1, .int .u8 q2, .int .u8 q3, .int .u8 q4, .int .u8 q5, .int .u8 q6, .int .u8 q7, .slice ab nb cb] 57 := by rw [← hw15]; exact putL_is (us := [.int .u8 0, .int .u8 0, .int .u8 0, .int .u8 0, .int .u8 0, .int .u8 0, .int .u8 0, .int .u8 0, .slice none 0 0]) HX14.out rfl
    simp only [putL, Nat.zero_add, Nat.reduceAdd] at hw15
    rw [hw15]
    have hK15 : w15.heap[w.heap.size + 3]? = some (.deferred (some [])) := by
      rw [← hz0]
      exact (P15.grown.block _ (Array.getElem?_eq_some_iff.1 HK14.out).1 (by intro e; injection e with e; omega)).trans HK14.out
    refine ⟨by simp, .inl ⟨_, _, rfl, run_takeDeferred hK15, ?_⟩⟩
    obtain ⟨w16, hw16⟩ : ∃ w16, w15.putObj (w.heap.size + 3) (.deferred none) = w16 := ⟨_, rfl⟩
    have r16 : w16.heap[w.heap.size]? = some (.cells #[.int .u8 q0, .int .u8 q1, .int .u8 q2, .int .u8 q3, .int .u8 q4, .int .u8 q5, .int .u8 q6, .int .u8 q7, .slice ab nb cb] 57 (0, 0)) := by rw [← hw16]; exact (World.putObj_heap_other (by omega)).trans P15.row
    have hb14 : Below w.heap.size w w14 := HB1.out.trans (HB14.out.mono HB1.out.size)
    have hb15 : Below w.heap.size w w15 := hb14.grown P15.grown hb14.size (fun k e => by cases e; omega)
    have hb16 : Below w.heap.size w w16 := by
      rw [← hw16]
      have h2 := grownBy_putObj' w15 (w.heap.size + 3) (.deferred none)
      exact hb15.grown h2 hb15.size (fun k e => by cases e; omega)
    have hOB16 : Own w16 w.heap.size ab nb cb (Str.all [] bs) := by
      have h1 := HOB.out.below HB14.out
      have h2 : Own w15 W.heap.size ab nb cb (Str.all [] bs) := h1.off P15.grown (by omega)
      have h3 : Own w16 W.heap.size ab nb cb (Str.all [] bs) := by
        rw [← hw16]
        exact h2.off (grownBy_putObj' w15 (w.heap.size + 3) (.deferred none)) (by omega)
      exact h3.mono (by omega)
    have HF : Hid (IFoldOut hs bs w (.returned (.agg #[.int .u8 q0, .int .u8 q1, .int .u8 q2, .int .u8 q3, .int .u8 q4, .int .u8 q5, .int .u8 q6, .int .u8 q7, .slice ab nb cb])) w16) := Lib.hid (by
      refine ⟨ab, cb, ?_, ?_, hb16⟩
      · rw [HH.out, HNB.out, HQ.out.1, HQ.out.2.1, HQ.out.2.2.1, HQ.out.2.2.2.1, HQ.out.2.2.2.2.1, HQ.out.2.2.2.2.2.1, HQ.out.2.2.2.2.2.2.1, HQ.out.2.2.2.2.2.2.2]
      · rw [HNB.out]; exact hOB16)
    rw [hw16]
    have f0 : w16.cell? ⟨w.heap.size, 0, none⟩ = some (.int .u8 q0) := by rw [cell_of_row w16 _ 0 _ _ _ r16]; rfl
    have f1 : w16.cell? ⟨w.heap.size, 1, none⟩ = some (.int .u8 q1) := by rw [cell_of_row w16 _ 1 _ _ _ r16]; rfl
    have f2 : w16.cell? ⟨w.heap.size, 2, none⟩ = some (.int .u8 q2) := by rw [cell_of_row w16 _ 2 _ _ _ r16]; rfl
    have f3 : w16.cell? ⟨w.heap.size, 3, none⟩ = some (.int .u8 q3) := by rw [cell_of_row w16 _ 3 _ _ _ r16]; rfl
    have f4 : w16.cell? ⟨w.heap.size, 4, none⟩ = some (.int .u8 q4) := by rw [cell_of_row w16 _ 4 _ _ _ r16]; rfl
    have f5 : w16.cell? ⟨w.heap.size, 5, none⟩ = some (.int .u8 q5) := by rw [cell_of_row w16 _ 5 _ _ _ r16]; rfl
    have f6 : w16.cell? ⟨w.heap.size, 6, none⟩ = some (.int .u8 q6) := by rw [cell_of_row w16 _ 6 _ _ _ r16]; rfl
    have f7 : w16.cell? ⟨w.heap.size, 7, none⟩ = some (.int .u8 q7) := by rw [cell_of_row w16 _ 7 _ _ _ r16]; rfl
    have f8 : w16.cell? ⟨w.heap.size, 8, none⟩ = some (.slice ab nb cb) := by rw [cell_of_row w16 _ 8 _ _ _ r16]; rfl
    clear hw15 P15 hK15 hw16 r16 hb14 hb15 hb16 hOB16
    refine ⟨.agg #[.int .u8 q0, .int .u8 q1, .int .u8 q2, .int .u8 q3, .int .u8 q4, .int .u8 q5, .int .u8 q6, .int .u8 q7, .slice ab nb cb], ?_, HF.out⟩
    simp [results, Try.results57, go_sem, f0, f1, f2, f3, f4, f5, f6, f7, f8]
  case stop => rintro c k W _ h _; exact h.elim
end Go.Proofs.Ytedhmoihlfjbdaa

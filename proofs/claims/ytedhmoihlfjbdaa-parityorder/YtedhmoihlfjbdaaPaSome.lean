
/-
  parity.Some.
-/
import Derived.Test.YtedhmoihlfjbdaaPaMake
import Derived.Test.YtedhmoihlfjbdaaPaRows
import Derived.Maps.OwnSet
namespace Go.Proofs.Ytedhmoihlfjbdaa
open Go.RowKit Go.Shelf Go.Maps
set_option linter.unusedVariables false
/-- The first k places are places of n packets, none twice. -/
def Pa.wok (n : Nat) (zs : List Int) : Nat → Bool | 0 => true | k + 1 => Pa.wok n zs k && (decide (0 ≤ zs.getD k 0 ∧ zs.getD k 0 < n) && !(zs.take k).contains (zs.getD k 0))
theorem Pa.wok_low {n : Nat} {zs : List Int} {k m : Nat} (h : k ≤ m) (hm : Pa.wok n zs m = true) : Pa.wok n zs k = true := by
  induction m with
  | zero => obtain rfl : k = 0 := by omega
            exact hm
  | succ m ih =>
    by_cases hk : k = m + 1
    · rw [hk]; exact hm
    · have h' : (Pa.wok n zs m && (decide (0 ≤ zs.getD m 0 ∧ zs.getD m 0 < n) && !(zs.take m).contains (zs.getD m 0))) = true := hm
      rw [Bool.and_eq_true] at h'
      exact ih (by omega) h'.1
theorem Pa.wok_no {n : Nat} {zs : List Int} {k m : Nat} (h : k < m) (hn : (decide (0 ≤ zs.getD k 0 ∧ zs.getD k 0 < n) && !(zs.take k).contains (zs.getD k 0)) = false) : Pa.wok n zs m = false := by
  cases he : Pa.wok n zs m with
  | false => rfl
  | true =>
    have h' : (Pa.wok n zs k && (decide (0 ≤ zs.getD k 0 ∧ zs.getD k 0 < n) && !(zs.take k).contains (zs.getD k 0))) = true := Pa.wok_low (k := k + 1) (by omega) he
    rw [hn, Bool.and_false] at h'; cases h'
theorem Pa.wok_at {n : Nat} {zs : List Int} {k j : Nat} (hw : Pa.wok n zs k = true) (h : j < k) : 0 ≤ zs.getD j 0 ∧ zs.getD j 0 < n := by
  have h' : (Pa.wok n zs j && (decide (0 ≤ zs.getD j 0 ∧ zs.getD j 0 < n) && !(zs.take j).contains (zs.getD j 0))) = true := Pa.wok_low (k := j + 1) (by omega) hw
  simp only [Bool.and_eq_true, decide_eq_true_eq] at h'
  exact h'.2.1
/-- The packets at the first k places. -/
def Pa.pick (ls : List (List Int)) (zs : List Int) (k : Nat) : List (List Int) := (List.range k).map fun j => ls.getD (zs.getD j 0).toNat []
theorem Pa.pick_len (ls : List (List Int)) (zs : List Int) (k : Nat) : (Pa.pick ls zs k).length = k := by simp [Pa.pick]
theorem Pa.pick_at (ls : List (List Int)) (zs : List Int) {k j : Nat} (h : j < k) : (Pa.pick ls zs k).getD j [] = ls.getD (zs.getD j 0).toNat [] := by
  rw [List.getD_eq_getElem?_getD, Pa.pick, List.getElem?_map, List.getElem?_range h]; rfl
/-- What Some leaves. -/
def SomeOut (ls : List (List Int)) (zs : List Int) (m : Nat) (w : World) (e : Ending) (w' : World) : Prop :=
  (Pa.wok ls.length zs m = false → e = .returned (.tuple #[rpc (fun _ => 0) 0 0 none 0 0, .int .i64 1]) ∧ Below w.heap.size w w') ∧
  (Pa.wok ls.length zs m = true → PaOut (Pa.pick ls zs m) w e w')
theorem skeyed : Keyed Try.prog 3 := int_keyed Try.underlying3
theorem szero (w : World) : (zeroValue 123).run Try.prog w = .ok (.agg #[]) w := by kernel_rfl
def Sset (zs : List Int) (k : Nat) : DataW Unit := setOf (.agg []) ((zs.take k).map (Lit.int .i64))
theorem any_i64 (x : Int) : ∀ l : List Int, l.any ((fun y : Lit => y.sameKey (.int .i64 x)) ∘ Lit.int .i64) = l.contains x
  | [] => rfl
  | a :: r => by
    rw [List.any_cons, List.contains_cons, any_i64 x r]
    congr 1
    show decide (IntKind.i64 = IntKind.i64 ∧ a = x) = (x == a)
    by_cases e : a = x
    · subst e; simp
    · have e' : ¬ x = a := fun h => e h.symm
      simp [e, e']
theorem Sset_has (zs : List Int) (k : Nat) (x : Int) : Maps.has (Sset zs k) (.int .i64 x) = (zs.take k).contains x := by
  unfold Sset
  rw [has_setOf _ _ _ (fun y hy => by obtain ⟨_, _, rfl⟩ := List.mem_map.1 hy; trivial), List.any_map]
  exact any_i64 x _
theorem Sset_put (zs : List Int) {k : Nat} (hk : k < zs.length) : (Sset zs k).put (.int .i64 (zs.getD k 0)) (.agg []) = Sset zs (k + 1) := by
  unfold Sset
  rw [List.take_add_one, List.getElem?_eq_getElem hk, List.map_append]
  show _ = setOf _ (_ ++ [Lit.int .i64 zs[k]])
  rw [setOf_snoc, List.getD_eq_getElem?_getD, List.getElem?_eq_getElem hk]; rfl
/-- A repair that Make answered, its content's bytes from base on. -/
structure RepIs (ls : List (List Int)) (base : Nat) (q : Nat → Int) (BB : Int) (X : Nat) (ab : Option Addr) (nb cb : Nat) (W : World) : Prop where
  bad : Pa.code ls ≠ 0 → (∀ j, q j = 0) ∧ BB = 0 ∧ X = 0 ∧ ab = none ∧ nb = 0 ∧ cb = 0
  good : Pa.code ls = 0 → (∀ j, q j = (Pa.head ls).getD j 0) ∧ BB = Pa.base ls ∧ X = Pa.X ls ∧ nb = (Pa.body ls).length ∧ Own W base ab nb cb (Pa.body ls)
theorem PaOut.rep {ls : List (List Int)} {w w' : World} {e : Ending} (h : PaOut ls w e w') :
    ∃ q BB X ab nb cb, e = .returned (.tuple #[rpc q BB X ab nb cb, .int .i64 (Pa.code ls)]) ∧ Below w.heap.size w w' ∧ RepIs ls w.heap.size q BB X ab nb cb w' := by
  by_cases hc : Pa.code ls = 0
  · obtain ⟨a, c, rfl, ho, hb⟩ := h.2 hc
    exact ⟨_, _, _, _, _, _, by rw [hc], hb, ⟨fun h => absurd hc h, fun _ => ⟨fun _ => rfl, rfl, rfl, rfl, ho⟩⟩⟩
  · obtain ⟨rfl, hb⟩ := h.1 hc
    exact ⟨_, _, _, _, _, _, rfl, hb, ⟨fun _ => ⟨fun _ => rfl, rfl, rfl, rfl, rfl, rfl⟩, fun h => absurd h hc⟩⟩
theorem rpc_ext {q q' : Nat → Int} (h : ∀ j, q j = q' j) (BB : Int) (X : Nat) (ab : Option Addr) (nb cb : Nat) : rpc q BB X ab nb cb = rpc q' BB X ab nb cb := by unfold rpc; simp only [h]
theorem RepIs.out {ls : List (List Int)} {q : Nat → Int} {BB : Int} {X : Nat} {ab : Option Addr} {nb cb : Nat} {w W : World} (h : RepIs ls w.heap.size q BB X ab nb cb W) (hb : Below w.heap.size w W) :
    PaOut ls w (.returned (.tuple #[rpc q BB X ab nb cb, .int .i64 (Pa.code ls)])) W := by
  refine ⟨fun hc => ?_, fun hc => ?_⟩
  · obtain ⟨h1, rfl, rfl, rfl, rfl, rfl⟩ := h.bad hc
    exact ⟨by rw [rpc_ext h1], hb⟩
  · obtain ⟨h1, rfl, rfl, rfl, ho⟩ := h.good hc
    exact ⟨_, _, by rw [rpc_ext h1, hc], ho, hb⟩
theorem RepIs.mono {ls : List (List Int)} {base base' : Nat} {q : Nat → Int} {BB : Int} {X : Nat} {ab : Option Addr} {nb cb : Nat} {W : World} (h : RepIs ls base q BB X ab nb cb W) (hb : base' ≤ base) : RepIs ls base' q BB X ab nb cb W :=
  ⟨h.bad, fun hc => by obtain ⟨h1, h2, h3, h4, h5⟩ := h.good hc; exact ⟨h1, h2, h3, h4, h5.mono hb⟩⟩
theorem RepIs.off {ls : List (List Int)} {base z : Nat} {q : Nat → Int} {BB : Int} {X : Nat} {ab : Option Addr} {nb cb : Nat} {W W' : World} (h : RepIs ls base q BB X ab nb cb W) (hg : W.grownBy W' (some z)) (hz : z < base) : RepIs ls base q BB X ab nb cb W' :=
  ⟨h.bad, fun hc => by obtain ⟨h1, h2, h3, h4, h5⟩ := h.good hc; exact ⟨h1, h2, h3, h4, h5.off hg hz⟩⟩
theorem RepIs.below {ls : List (List Int)} {base : Nat} {q : Nat → Int} {BB : Int} {X : Nat} {ab : Option Addr} {nb cb : Nat} {W W' : World} (h : RepIs ls base q BB X ab nb cb W) (hg : Below W.heap.size W W') : RepIs ls base q BB X ab nb cb W' :=
  ⟨h.bad, fun hc => by obtain ⟨h1, h2, h3, h4, h5⟩ := h.good hc; exact ⟨h1, h2, h3, h4, h5.below hg⟩⟩
/-- In front of round k. -/
structure SS (w : World) (n : Nat) (zs : List Int) (av : Nat → Option Addr) (nv cv : Nat → Nat) (k : Nat) (a : Option Addr) (c : Nat) (W : World) : Prop where
  ok : Pa.wok n zs k = true
  box : W.heap[w.heap.size]? = some (.cells #[.int .u8 0, .int .u8 0, .int .u8 0, .int .u8 0, .int .u8 0, .int .u8 0, .int .u8 0, .int .u8 0, .int .u16 0, .int .u64 0, .int .u64 0, .slice none 0 0] 32 (0, 0))
  set : W.ownsMap Try.prog 3 unitElem (w.heap.size + 1) k (Sset zs k)
  own : W.ownsRow (w.heap.size + 2) 26 1 (.slice a k c) k ((List.range k).map fun j => .slice (av (zs.getD j 0).toNat) (nv (zs.getD j 0).toNat) (cv (zs.getD j 0).toNat))
  low : Below w.heap.size w W
  big : w.heap.size + 2 ≤ W.heap.size
set_option maxHeartbeats 1000000 in
set_option maxRecDepth 100000 in
theorem some_any (a : Option Addr) (len c : Nat) (ls : List (List Int)) (aw : Option Addr) (m cw : Nat) (zs : List Int) (w : World) (h : PksAt w a len ls) (hlen : len ≤ 1000000000) (hz : Ints aw m zs w) (hzl : m ≤ zs.length) (hm : m ≤ 1000000) :
    Calls Try.prog 17 #[.slice a len c, .slice aw m cw] w (SomeOut ls zs m w) := by
  have hcount := h.count
  obtain ⟨b, o, av, nv, cv, hrow⟩ := h.row
  have HP := Lib.hid h; clear h
  have HZ := Lib.hid hz; clear hz
  have HROW := Lib.hid hrow; clear hrow
  have hmm := @run_makeMap Try.prog
  go_enter Try.func17, Try.ntmps17
  go_wp2
  obtain ⟨w0, hw0⟩ : ∃ u, (w.alloc (.cells #[.int .u8 0, .int .u8 0, .int .u8 0, .int .u8 0, .int .u8 0, .int .u8 0, .int .u8 0, .int .u8 0, .int .u16 0, .int .u64 0, .int .u64 0, .slice none 0 0] 32)).alloc (.map #[] 0) = u := ⟨_, rfl⟩
  have h0 : Hid (SS w len zs av nv cv 0 none 0 w0) := Lib.hid (by
    have hbox : w0.heap[w.heap.size]? = some (.cells #[.int .u8 0, .int .u8 0, .int .u8 0, .int .u8 0, .int .u8 0, .int .u8 0, .int .u8 0, .int .u8 0, .int .u16 0, .int .u64 0, .int .u64 0, .slice none 0 0] 32 (0, 0)) := by rw [← hw0]; exact (Below.heap_alloc _ _ _ (by simp)).trans (heap_alloc_new w _)
    have hset : w0.ownsMap Try.prog 3 unitElem (w.heap.size + 1) 0 (Sset zs 0) := by
      have h := World.ownsMap_made (H := Unit) (w.alloc (.cells #[.int .u8 0, .int .u8 0, .int .u8 0, .int .u8 0, .int .u8 0, .int .u8 0, .int .u8 0, .int .u8 0, .int .u16 0, .int .u64 0, .int .u64 0, .slice none 0 0] 32)) Try.prog 3 unitElem
      rw [World.size_alloc, hw0] at h
      exact h
    have hlow : Below w.heap.size w w0 := by rw [← hw0]; exact ((Below.refl _ w).alloc (Nat.le_refl _) _).alloc (by simp) _
    exact ⟨rfl, hbox, hset, World.ownsRow_nil _ _ _ _, hlow, by rw [← hw0]; simp⟩)
  rw [hw0]
  clear hw0 hmm
  go_loopw [6, 15] (fun pv iv wr => ∃ (k : Nat) (a' : Option Addr) (c' : Nat), k ≤ m ∧ iv = .int .i64 k ∧ pv = .slice a' k c' ∧ Hid (SS w len zs av nv cv k a' c' wr)) (fun _ iv _ => m - (intOf iv).toNat)
  case atStart => exact ⟨0, none, 0, Nat.zero_le _, rfl, rfl, h0⟩
  case round =>
    clear h0
    obtain ⟨k, a', c', hk, rfl, rfl, HS⟩ := hrel
    by_cases hlt : k < m
    · have hltz : (k : Int) < (m : Int) := by omega
      obtain ⟨bw, ow, rfl, hbl, hcell, hz1, hz2⟩ := HZ.out k hlt
      have e1 : wr.cell? ⟨bw, ow + k, none⟩ = some (.int .i64 (zs.getD k 0)) := (HS.out.low.cell (p := ⟨bw, ow + k, none⟩) hbl).trans hcell
      have hkey : keyOf Try.prog 3 (.int .i64 (zs.getD k 0)) = some (.int .i64 (zs.getD k 0)) := keyOf_int_mk Try.underlying3 (WalkArith.wf_i64 (by omega))
      have hhas := Sset_has zs k (zs.getD k 0)
      have hput := Sset_put zs (k := k) (by omega)
      have hno := Pa.wok_no (n := len) (zs := zs) hlt
      have hyes : Pa.wok len zs (k + 1) = (Pa.wok len zs k && (decide (0 ≤ zs.getD k 0 ∧ zs.getD k 0 < len) && !(zs.take k).contains (zs.getD k 0))) := rfl
      have HHAS := Lib.hid hhas; have HPUT := Lib.hid hput; have HNO := Lib.hid hno; have HYES := Lib.hid hyes
      have hcells : ((List.range (k + 1)).map fun j => Value.slice (av (zs.getD j 0).toNat) (nv (zs.getD j 0).toNat) (cv (zs.getD j 0).toNat)) = ((List.range k).map fun j => Value.slice (av (zs.getD j 0).toNat) (nv (zs.getD j 0).toNat) (cv (zs.getD j 0).toNat)) ++ [Value.slice (av (zs.getD k 0).toNat) (nv (zs.getD k 0).toNat) (cv (zs.getD k 0).toNat)] := by rw [List.range_succ, List.map_append]; rfl
      have HCE := Lib.hid hcells
      clear hhas hput hno hyes hcells hcell
      generalize hzk : zs.getD k 0 = z at *
      have HBOX := Lib.hid HS.out.box
      by_cases hin : 0 ≤ z ∧ z < len
      · obtain ⟨hi1, hi2⟩ := hin
        obtain ⟨t, rfl⟩ : ∃ t : Nat, z = t := ⟨z.toNat, by omega⟩
        have ht : t < len := by omega
        obtain ⟨rfl, hb1, hb2, _, _, _⟩ := HROW.out t ht
        have e2 : wr.cell? ⟨b, o + t, none⟩ = some (.slice (av t) (nv t) (cv t)) := (HS.out.low.cell (p := ⟨b, o + t, none⟩) hb1).trans hb2
        have hge : ¬ (len : Int) ≤ (t : Int) := by omega
        have hge' : ¬ (t : Int) < 0 := by omega
        have HB1b := Lib.hid hb1
        clear hb1 hb2 hzk
        obtain ⟨wb, hwb⟩ : ∃ u, wr.alloc (.cells #[] 123) = u := ⟨_, rfl⟩
        have hBb : Below wr.heap.size wr wb := by rw [← hwb]; exact (Below.refl _ wr).alloc (Nat.le_refl _) _
        have hzb : wb.heap.size = wr.heap.size + 1 := by rw [← hwb]; simp
        have hset := HS.out.set
        by_cases hc : (zs.take k).contains (t : Int) = true
        · have hh : Maps.has (Sset zs k) (Lit.int .i64 t) = true := HHAS.out.trans hc
          have HBAD : Hid (Pa.wok ls.length zs m = false) := Lib.hid (by rw [hcount]; exact HNO.out (by rw [hc]; simp))
          have hbox := (hBb.block _ (Array.getElem?_eq_some_iff.1 HBOX.out).1).trans HBOX.out
          have HBOXb := Lib.hid hbox
          have HLOW := Lib.hid (HS.out.low.trans (hBb.mono HS.out.low.size))
          have HWB := Lib.hid hwb
          clear hc HNO HYES hBb hbox hwb
          have z0 : wb.cell? ⟨w.heap.size, 0, none⟩ = some (.int .u8 0) := by rw [cell_of_row wb _ 0 _ _ _ HBOXb.out]; rfl
          have z1 : wb.cell? ⟨w.heap.size, 1, none⟩ = some (.int .u8 0) := by rw [cell_of_row wb _ 1 _ _ _ HBOXb.out]; rfl
          have z2 : wb.cell? ⟨w.heap.size, 2, none⟩ = some (.int .u8 0) := by rw [cell_of_row wb _ 2 _ _ _ HBOXb.out]; rfl
          have z3 : wb.cell? ⟨w.heap.size, 3, none⟩ = some (.int .u8 0) := by rw [cell_of_row wb _ 3 _ _ _ HBOXb.out]; rfl
          have z4 : wb.cell? ⟨w.heap.size, 4, none⟩ = some (.int .u8 0) := by rw [cell_of_row wb _ 4 _ _ _ HBOXb.out]; rfl
          have z5 : wb.cell? ⟨w.heap.size, 5, none⟩ = some (.int .u8 0) := by rw [cell_of_row wb _ 5 _ _ _ HBOXb.out]; rfl
          have z6 : wb.cell? ⟨w.heap.size, 6, none⟩ = some (.int .u8 0) := by rw [cell_of_row wb _ 6 _ _ _ HBOXb.out]; rfl
          have z7 : wb.cell? ⟨w.heap.size, 7, none⟩ = some (.int .u8 0) := by rw [cell_of_row wb _ 7 _ _ _ HBOXb.out]; rfl
          have z8 : wb.cell? ⟨w.heap.size, 8, none⟩ = some (.int .u16 0) := by rw [cell_of_row wb _ 8 _ _ _ HBOXb.out]; rfl
          have z9 : wb.cell? ⟨w.heap.size, 9, none⟩ = some (.int .u64 0) := by rw [cell_of_row wb _ 9 _ _ _ HBOXb.out]; rfl
          have z10 : wb.cell? ⟨w.heap.size, 10, none⟩ = some (.int .u64 0) := by rw [cell_of_row wb _ 10 _ _ _ HBOXb.out]; rfl
          have z11 : wb.cell? ⟨w.heap.size, 11, none⟩ = some (.slice none 0 0) := by rw [cell_of_row wb _ 11 _ _ _ HBOXb.out]; rfl
          have fz : ∀ o, wb.frozen? ⟨w.heap.size, o, none⟩ = false := fun o => frozen_of_row wb _ o _ _ HBOXb.out
          rw [← HWB.out] at z0 z1 z2 z3 z4 z5 z6 z7 z8 z9 z10 z11 fz
          go_wp2_with (at_lookup; refine wpList_lookup_own_unit _ rfl _ _ 122 rfl 3 123 skeyed Try.underlying122 (szero _) (w.heap.size + 1) k _ rfl hset _ _ rfl hkey ?_)
          rw [HWB.out] at z0 z1 z2 z3 z4 z5 z6 z7 z8 z9 z10 z11 fz
          rw [HWB.out]
          obtain ⟨w5, hw5⟩ : ∃ u, putL wb w.heap.size 0 [.int .u8 0, .int .u8 0, .int .u8 0, .int .u8 0, .int .u8 0, .int .u8 0, .int .u8 0, .int .u8 0, .int .u16 0, .int .u64 0, .int .u64 0, .slice none 0 0] = u := ⟨_, rfl⟩
          have P5 : Put wb w5 w.heap.size #[.int .u8 0, .int .u8 0, .int .u8 0, .int .u8 0, .int .u8 0, .int .u8 0, .int .u8 0, .int .u8 0, .int .u16 0, .int .u64 0, .int .u64 0, .slice none 0 0] 32 := by rw [← hw5]; exact putL_is (us := [.int .u8 0, .int .u8 0, .int .u8 0, .int .u8 0, .int .u8 0, .int .u8 0, .int .u8 0, .int .u8 0, .int .u16 0, .int .u64 0, .int .u64 0, .slice none 0 0]) HBOXb.out rfl
          simp only [putL, Nat.zero_add, Nat.reduceAdd] at hw5
          rw [hw5]
          have hb5 := HLOW.out.grown P5.grown HLOW.out.size (fun k e => by cases e; exact Nat.le_refl _)
          have hr5 := P5.row
          clear hw5 P5
          have HB5 := Lib.hid hb5; clear hb5
          have HR5 := Lib.hid hr5; clear hr5
          clear z0 z1 z2 z3 z4 z5 z6 z7 z8 z9 z10 z11 fz
          have y0 : w5.cell? ⟨w.heap.size, 0, none⟩ = some (.int .u8 0) := by rw [cell_of_row w5 _ 0 _ _ _ HR5.out]; rfl
          have y1 : w5.cell? ⟨w.heap.size, 1, none⟩ = some (.int .u8 0) := by rw [cell_of_row w5 _ 1 _ _ _ HR5.out]; rfl
          have y2 : w5.cell? ⟨w.heap.size, 2, none⟩ = some (.int .u8 0) := by rw [cell_of_row w5 _ 2 _ _ _ HR5.out]; rfl
          have y3 : w5.cell? ⟨w.heap.size, 3, none⟩ = some (.int .u8 0) := by rw [cell_of_row w5 _ 3 _ _ _ HR5.out]; rfl
          have y4 : w5.cell? ⟨w.heap.size, 4, none⟩ = some (.int .u8 0) := by rw [cell_of_row w5 _ 4 _ _ _ HR5.out]; rfl
          have y5 : w5.cell? ⟨w.heap.size, 5, none⟩ = some (.int .u8 0) := by rw [cell_of_row w5 _ 5 _ _ _ HR5.out]; rfl
          have y6 : w5.cell? ⟨w.heap.size, 6, none⟩ = some (.int .u8 0) := by rw [cell_of_row w5 _ 6 _ _ _ HR5.out]; rfl
          have y7 : w5.cell? ⟨w.heap.size, 7, none⟩ = some (.int .u8 0) := by rw [cell_of_row w5 _ 7 _ _ _ HR5.out]; rfl
          have y8 : w5.cell? ⟨w.heap.size, 8, none⟩ = some (.int .u16 0) := by rw [cell_of_row w5 _ 8 _ _ _ HR5.out]; rfl
          have y9 : w5.cell? ⟨w.heap.size, 9, none⟩ = some (.int .u64 0) := by rw [cell_of_row w5 _ 9 _ _ _ HR5.out]; rfl
          have y10 : w5.cell? ⟨w.heap.size, 10, none⟩ = some (.int .u64 0) := by rw [cell_of_row w5 _ 10 _ _ _ HR5.out]; rfl
          have y11 : w5.cell? ⟨w.heap.size, 11, none⟩ = some (.slice none 0 0) := by rw [cell_of_row w5 _ 11 _ _ _ HR5.out]; rfl
          exact bodyPost_ret (v := .tuple #[rpc (fun _ => 0) 0 0 none 0 0, .int .i64 1]) (by simp [results, Try.results17, go_sem, rpc, Mk.H, Mk.L, y0, y1, y2, y3, y4, y5, y6, y7, y8, y9, y10, y11]) rfl ⟨fun _ => ⟨rfl, HB5.out⟩, fun h => absurd h (by rw [HBAD.out]; decide)⟩
        · have hh : Maps.has (Sset zs k) (Lit.int .i64 t) = false := HHAS.out.trans (by simpa using hc)
          have hok : Pa.wok len zs (k + 1) = true := by rw [HYES.out, HS.out.ok]; simp only [Bool.true_and, Bool.and_eq_true, decide_eq_true_eq]; exact ⟨⟨hi1, hi2⟩, by simpa using hc⟩
          have hownb : wb.ownsRow (w.heap.size + 2) 26 1 (.slice a' k c') k ((List.range k).map fun j => .slice (av (zs.getD j 0).toNat) (nv (zs.getD j 0).toNat) (cv (zs.getD j 0).toNat)) := by rw [← hwb]; exact HS.out.own.alloc _
          have hbig := HS.out.big
          have HOWNB := Lib.hid hownb; have HOK := Lib.hid hok; have HWB := Lib.hid hwb; have HBB := Lib.hid hBb
          have hsetb : (wr.alloc (.cells #[] 123)).ownsMap Try.prog 3 unitElem (w.heap.size + 1) k (Sset zs k) := hset.alloc _
          clear hc HNO HYES hBb hwb hok hownb HHAS
          go_wp2_with (first
            | (at_lookup; refine wpList_lookup_own_unit _ rfl _ _ 122 rfl 3 123 skeyed Try.underlying122 (szero _) (w.heap.size + 1) k _ rfl hset _ _ rfl hkey ?_)
            | (at_mapUpdate; refine wpList_mapUpdate_own _ rfl _ _ _ 122 rfl 3 123 skeyed Try.underlying122 (unitElem (H := Unit)) (w.heap.size + 1) k _ rfl hsetb (by unfold maxLen; omega) _ _ _ rfl rfl hkey _ [] unitElem_mk ?_; intro w1 hown1 hgrow1; rw [HWB.out] at hgrow1; obtain ⟨a5, c5, w5, hrun, hO5, hg5, hn5⟩ := append_slice1 w1 22 (w.heap.size + 2) a' k c' _ (HOWNB.out.kept hgrow1 (by
                cases a' with
                | none => exact .inl rfl
                | some y => exact .inr (fun e => by have := (HOWNB.out.lt _ rfl).1; simp [Value.ownBlock] at e; omega))) (av t) (nv t) (cv t) (by omega) (by have := hgrow1.size; omega); have HRUN := Lib.hid hrun; have e3 : w1.cell? ⟨b, o + t, none⟩ = some (.slice (av t) (nv t) (cv t)) := (World.cell?_of_block (w := wr) (a := ⟨b, o + t, none⟩) ((hgrow1.block b (by have := HB1b.out; have := hbig; omega) (by have := HB1b.out; intro e; simp at e; omega)).trans (HBB.out.block b (by have := HB1b.out; have := hbig; omega)))).trans e2; have HO5 := Lib.hid hO5; have HG5 := Lib.hid hg5; have HG1 := Lib.hid hgrow1; have HOWN1 := Lib.hid hown1; clear hrun hO5 hg5 hn5 hgrow1 hown1)
            | (at_builtin; refine Lib.wpList_append_run _ rfl (.tmp 39) (.tmp 44) 22 22 rfl (.slice a' k c') _ (by rfl) (by rfl) _ _ HRUN.out ?_))
          have hs1 := HG1.out.size
          have hg5 := HG5.out
          have hne5 : some w.heap.size ≠ a'.map (·.block) ∧ some (w.heap.size + 1) ≠ a'.map (·.block) := by
            cases a' with
            | none => exact ⟨(fun e => by cases e), (fun e => by cases e)⟩
            | some y => have := (HOWNB.out.lt _ rfl).1; exact ⟨(fun e => by simp at e; omega), (fun e => by simp at e; omega)⟩
          have hbox5 : w5.heap[w.heap.size]? = some (.cells #[.int .u8 0, .int .u8 0, .int .u8 0, .int .u8 0, .int .u8 0, .int .u8 0, .int .u8 0, .int .u8 0, .int .u16 0, .int .u64 0, .int .u64 0, .slice none 0 0] 32 (0, 0)) :=
            (hg5.block _ (by simp; omega) hne5.1).trans ((Below.heap_alloc _ _ _ (by omega)).trans ((HG1.out.block _ (by omega) (by intro e; simp at e)).trans ((HBB.out.block _ (by omega)).trans HBOX.out)))
          have hset5 : w5.ownsMap Try.prog 3 unitElem (w.heap.size + 1) (k + 1) (Sset zs (k + 1)) := by
            have h := (HOWN1.out.alloc (.cells #[.slice (av t) (nv t) (cv t)] 26)).kept hg5 hne5.2
            rwa [HPUT.out] at h
          have hlow5 : Below w.heap.size w w5 := by
            have h1 := HS.out.low.trans (HBB.out.mono HS.out.low.size)
            have h2 := h1.grown HG1.out h1.size (fun j e => by cases e; omega)
            have h3 := h2.alloc h2.size (.cells #[.slice (av t) (nv t) (cv t)] 26)
            exact h3.grown hg5 h3.size (fun j e => by
              cases a' with
              | none => cases e
              | some y => have := (HOWNB.out.lt _ rfl).1; simp at e; omega)
          have hbig5 : w.heap.size + 2 ≤ w5.heap.size := by have := hg5.size; simp at this; omega
          go_roundw
          case rel => exact ⟨k + 1, a5, c5, by omega, by go_num, rfl, Lib.hid ⟨HOK.out, hbox5, hset5, by rw [HCE.out]; exact HO5.out, hlow5, hbig5⟩⟩
          case measure => simp [intOf]; omega
      · have HBAD : Hid (Pa.wok ls.length zs m = false) := Lib.hid (by rw [hcount]; exact HNO.out (by rw [show decide (0 ≤ z ∧ z < (len : Int)) = false from by simpa using hin]; rfl))
        have HLOW := Lib.hid HS.out.low
        have z0 : wr.cell? ⟨w.heap.size, 0, none⟩ = some (.int .u8 0) := by rw [cell_of_row wr _ 0 _ _ _ HBOX.out]; rfl
        have z1 : wr.cell? ⟨w.heap.size, 1, none⟩ = some (.int .u8 0) := by rw [cell_of_row wr _ 1 _ _ _ HBOX.out]; rfl
        have z2 : wr.cell? ⟨w.heap.size, 2, none⟩ = some (.int .u8 0) := by rw [cell_of_row wr _ 2 _ _ _ HBOX.out]; rfl
        have z3 : wr.cell? ⟨w.heap.size, 3, none⟩ = some (.int .u8 0) := by rw [cell_of_row wr _ 3 _ _ _ HBOX.out]; rfl
        have z4 : wr.cell? ⟨w.heap.size, 4, none⟩ = some (.int .u8 0) := by rw [cell_of_row wr _ 4 _ _ _ HBOX.out]; rfl
        have z5 : wr.cell? ⟨w.heap.size, 5, none⟩ = some (.int .u8 0) := by rw [cell_of_row wr _ 5 _ _ _ HBOX.out]; rfl
        have z6 : wr.cell? ⟨w.heap.size, 6, none⟩ = some (.int .u8 0) := by rw [cell_of_row wr _ 6 _ _ _ HBOX.out]; rfl
        have z7 : wr.cell? ⟨w.heap.size, 7, none⟩ = some (.int .u8 0) := by rw [cell_of_row wr _ 7 _ _ _ HBOX.out]; rfl
        have z8 : wr.cell? ⟨w.heap.size, 8, none⟩ = some (.int .u16 0) := by rw [cell_of_row wr _ 8 _ _ _ HBOX.out]; rfl
        have z9 : wr.cell? ⟨w.heap.size, 9, none⟩ = some (.int .u64 0) := by rw [cell_of_row wr _ 9 _ _ _ HBOX.out]; rfl
        have z10 : wr.cell? ⟨w.heap.size, 10, none⟩ = some (.int .u64 0) := by rw [cell_of_row wr _ 10 _ _ _ HBOX.out]; rfl
        have z11 : wr.cell? ⟨w.heap.size, 11, none⟩ = some (.slice none 0 0) := by rw [cell_of_row wr _ 11 _ _ _ HBOX.out]; rfl
        have fz : ∀ o, wr.frozen? ⟨w.heap.size, o, none⟩ = false := fun o => frozen_of_row wr _ o _ _ HBOX.out
        clear HNO HYES HHAS
        by_cases hneg : z < 0
        · go_wp2_with fail
          obtain ⟨w5, hw5⟩ : ∃ u, putL wr w.heap.size 0 [.int .u8 0, .int .u8 0, .int .u8 0, .int .u8 0, .int .u8 0, .int .u8 0, .int .u8 0, .int .u8 0, .int .u16 0, .int .u64 0, .int .u64 0, .slice none 0 0] = u := ⟨_, rfl⟩
          have P5 : Put wr w5 w.heap.size #[.int .u8 0, .int .u8 0, .int .u8 0, .int .u8 0, .int .u8 0, .int .u8 0, .int .u8 0, .int .u8 0, .int .u16 0, .int .u64 0, .int .u64 0, .slice none 0 0] 32 := by rw [← hw5]; exact putL_is (us := [.int .u8 0, .int .u8 0, .int .u8 0, .int .u8 0, .int .u8 0, .int .u8 0, .int .u8 0, .int .u8 0, .int .u16 0, .int .u64 0, .int .u64 0, .slice none 0 0]) HBOX.out rfl
          simp only [putL, Nat.zero_add, Nat.reduceAdd] at hw5
          rw [hw5]
          have hb5 := HLOW.out.grown P5.grown HLOW.out.size (fun k e => by cases e; exact Nat.le_refl _)
          have hr5 := P5.row
          clear hw5 P5
          have HB5 := Lib.hid hb5; clear hb5
          have HR5 := Lib.hid hr5; clear hr5
          clear z0 z1 z2 z3 z4 z5 z6 z7 z8 z9 z10 z11 fz
          have y0 : w5.cell? ⟨w.heap.size, 0, none⟩ = some (.int .u8 0) := by rw [cell_of_row w5 _ 0 _ _ _ HR5.out]; rfl
          have y1 : w5.cell? ⟨w.heap.size, 1, none⟩ = some (.int .u8 0) := by rw [cell_of_row w5 _ 1 _ _ _ HR5.out]; rfl
          have y2 : w5.cell? ⟨w.heap.size, 2, none⟩ = some (.int .u8 0) := by rw [cell_of_row w5 _ 2 _ _ _ HR5.out]; rfl
          have y3 : w5.cell? ⟨w.heap.size, 3, none⟩ = some (.int .u8 0) := by rw [cell_of_row w5 _ 3 _ _ _ HR5.out]; rfl
          have y4 : w5.cell? ⟨w.heap.size, 4, none⟩ = some (.int .u8 0) := by rw [cell_of_row w5 _ 4 _ _ _ HR5.out]; rfl
          have y5 : w5.cell? ⟨w.heap.size, 5, none⟩ = some (.int .u8 0) := by rw [cell_of_row w5 _ 5 _ _ _ HR5.out]; rfl
          have y6 : w5.cell? ⟨w.heap.size, 6, none⟩ = some (.int .u8 0) := by rw [cell_of_row w5 _ 6 _ _ _ HR5.out]; rfl
          have y7 : w5.cell? ⟨w.heap.size, 7, none⟩ = some (.int .u8 0) := by rw [cell_of_row w5 _ 7 _ _ _ HR5.out]; rfl
          have y8 : w5.cell? ⟨w.heap.size, 8, none⟩ = some (.int .u16 0) := by rw [cell_of_row w5 _ 8 _ _ _ HR5.out]; rfl
          have y9 : w5.cell? ⟨w.heap.size, 9, none⟩ = some (.int .u64 0) := by rw [cell_of_row w5 _ 9 _ _ _ HR5.out]; rfl
          have y10 : w5.cell? ⟨w.heap.size, 10, none⟩ = some (.int .u64 0) := by rw [cell_of_row w5 _ 10 _ _ _ HR5.out]; rfl
          have y11 : w5.cell? ⟨w.heap.size, 11, none⟩ = some (.slice none 0 0) := by rw [cell_of_row w5 _ 11 _ _ _ HR5.out]; rfl
          exact bodyPost_ret (v := .tuple #[rpc (fun _ => 0) 0 0 none 0 0, .int .i64 1]) (by simp [results, Try.results17, go_sem, rpc, Mk.H, Mk.L, y0, y1, y2, y3, y4, y5, y6, y7, y8, y9, y10, y11]) rfl ⟨fun _ => ⟨rfl, HB5.out⟩, fun h => absurd h (by rw [HBAD.out]; decide)⟩
        · have hge : (len : Int) ≤ z := by omega
          clear hin
          go_wp2_with fail
          obtain ⟨w5, hw5⟩ : ∃ u, putL wr w.heap.size 0 [.int .u8 0, .int .u8 0, .int .u8 0, .int .u8 0, .int .u8 0, .int .u8 0, .int .u8 0, .int .u8 0, .int .u16 0, .int .u64 0, .int .u64 0, .slice none 0 0] = u := ⟨_, rfl⟩
          have P5 : Put wr w5 w.heap.size #[.int .u8 0, .int .u8 0, .int .u8 0, .int .u8 0, .int .u8 0, .int .u8 0, .int .u8 0, .int .u8 0, .int .u16 0, .int .u64 0, .int .u64 0, .slice none 0 0] 32 := by rw [← hw5]; exact putL_is (us := [.int .u8 0, .int .u8 0, .int .u8 0, .int .u8 0, .int .u8 0, .int .u8 0, .int .u8 0, .int .u8 0, .int .u16 0, .int .u64 0, .int .u64 0, .slice none 0 0]) HBOX.out rfl
          simp only [putL, Nat.zero_add, Nat.reduceAdd] at hw5
          rw [hw5]
          have hb5 := HLOW.out.grown P5.grown HLOW.out.size (fun k e => by cases e; exact Nat.le_refl _)
          have hr5 := P5.row
          clear hw5 P5
          have HB5 := Lib.hid hb5; clear hb5
          have HR5 := Lib.hid hr5; clear hr5
          clear z0 z1 z2 z3 z4 z5 z6 z7 z8 z9 z10 z11 fz
          have y0 : w5.cell? ⟨w.heap.size, 0, none⟩ = some (.int .u8 0) := by rw [cell_of_row w5 _ 0 _ _ _ HR5.out]; rfl
          have y1 : w5.cell? ⟨w.heap.size, 1, none⟩ = some (.int .u8 0) := by rw [cell_of_row w5 _ 1 _ _ _ HR5.out]; rfl
          have y2 : w5.cell? ⟨w.heap.size, 2, none⟩ = some (.int .u8 0) := by rw [cell_of_row w5 _ 2 _ _ _ HR5.out]; rfl
          have y3 : w5.cell? ⟨w.heap.size, 3, none⟩ = some (.int .u8 0) := by rw [cell_of_row w5 _ 3 _ _ _ HR5.out]; rfl
          have y4 : w5.cell? ⟨w.heap.size, 4, none⟩ = some (.int .u8 0) := by rw [cell_of_row w5 _ 4 _ _ _ HR5.out]; rfl
          have y5 : w5.cell? ⟨w.heap.size, 5, none⟩ = some (.int .u8 0) := by rw [cell_of_row w5 _ 5 _ _ _ HR5.out]; rfl
          have y6 : w5.cell? ⟨w.heap.size, 6, none⟩ = some (.int .u8 0) := by rw [cell_of_row w5 _ 6 _ _ _ HR5.out]; rfl
          have y7 : w5.cell? ⟨w.heap.size, 7, none⟩ = some (.int .u8 0) := by rw [cell_of_row w5 _ 7 _ _ _ HR5.out]; rfl
          have y8 : w5.cell? ⟨w.heap.size, 8, none⟩ = some (.int .u16 0) := by rw [cell_of_row w5 _ 8 _ _ _ HR5.out]; rfl
          have y9 : w5.cell? ⟨w.heap.size, 9, none⟩ = some (.int .u64 0) := by rw [cell_of_row w5 _ 9 _ _ _ HR5.out]; rfl
          have y10 : w5.cell? ⟨w.heap.size, 10, none⟩ = some (.int .u64 0) := by rw [cell_of_row w5 _ 10 _ _ _ HR5.out]; rfl
          have y11 : w5.cell? ⟨w.heap.size, 11, none⟩ = some (.slice none 0 0) := by rw [cell_of_row w5 _ 11 _ _ _ HR5.out]; rfl
          exact bodyPost_ret (v := .tuple #[rpc (fun _ => 0) 0 0 none 0 0, .int .i64 1]) (by simp [results, Try.results17, go_sem, rpc, Mk.H, Mk.L, y0, y1, y2, y3, y4, y5, y6, y7, y8, y9, y10, y11]) rfl ⟨fun _ => ⟨rfl, HB5.out⟩, fun h => absurd h (by rw [HBAD.out]; decide)⟩
    · obtain rfl : k = m := by omega
      have hpk : PksAt wr a' k (Pa.pick ls zs k) := by
        refine ⟨Pa.pick_len _ _ _, ?_⟩
        rcases Nat.eq_zero_or_pos k with h0 | h0
        · subst h0; exact ⟨0, 0, fun _ => none, fun _ => 0, fun _ => 0, fun j hj => by omega⟩
        obtain ⟨g, ea, _, _, _⟩ := own_cell HS.out.own (i := 0) (x := .slice (av (zs.getD 0 0).toNat) (nv (zs.getD 0 0).toNat) (cv (zs.getD 0 0).toNat)) (by rw [List.getElem?_map, List.getElem?_range h0]; rfl)
        refine ⟨g, 0, fun j => av (zs.getD j 0).toNat, fun j => nv (zs.getD j 0).toNat, fun j => cv (zs.getD j 0).toNat, fun j hj => ?_⟩
        obtain ⟨g', ea', _, hg1, hg2⟩ := own_cell HS.out.own (i := j) (x := .slice (av (zs.getD j 0).toNat) (nv (zs.getD j 0).toNat) (cv (zs.getD j 0).toNat)) (by rw [List.getElem?_map, List.getElem?_range hj]; rfl)
        have eg : g' = g := by rw [ea] at ea'; simp at ea'; exact ea'.symm
        subst eg
        have hzj := Pa.wok_at HS.out.ok hj
        obtain ⟨_, _, _, r1, r2, r3⟩ := HROW.out (zs.getD j 0).toNat (by omega)
        refine ⟨ea, hg1, by rw [Nat.zero_add]; exact hg2, ?_, r2, r3⟩
        rw [Pa.pick_at ls zs hj]
        exact r1.below HS.out.low
      have HM := Lib.hid (make_any a' k c' _ wr hpk (by omega))
      have HBOX := Lib.hid HS.out.box
      clear hpk
      go_wp2_with fail
      refine HM.out.mono ?_
      rintro e w2 hout
      obtain ⟨q, BB, XX, ab, nb, cb, rfl, hB2, hrep⟩ := hout.rep
      have hbox2 := (hB2.block _ (Array.getElem?_eq_some_iff.1 HBOX.out).1).trans HBOX.out
      have hb2 := HS.out.low.trans (hB2.mono HS.out.low.size)
      have hwo := HS.out.ok
      rw [← hcount] at hwo
      have hbg := HS.out.big
      have HREP := Lib.hid (hrep.mono (base' := w.heap.size + 1) (by omega))
      have HBOX2 := Lib.hid hbox2; have HB2 := Lib.hid hb2; have HWO := Lib.hid hwo
      clear hout hB2 hrep hbox2 hb2 hwo HM HBOX HS
      generalize hcd : Pa.code (Pa.pick ls zs k) = cd at *
      have HCD := Lib.hid hcd; clear hcd
      unfold rpc
      have z0 : w2.cell? ⟨w.heap.size, 0, none⟩ = some (.int .u8 0) := by rw [cell_of_row w2 _ 0 _ _ _ HBOX2.out]; rfl
      have z1 : w2.cell? ⟨w.heap.size, 1, none⟩ = some (.int .u8 0) := by rw [cell_of_row w2 _ 1 _ _ _ HBOX2.out]; rfl
      have z2 : w2.cell? ⟨w.heap.size, 2, none⟩ = some (.int .u8 0) := by rw [cell_of_row w2 _ 2 _ _ _ HBOX2.out]; rfl
      have z3 : w2.cell? ⟨w.heap.size, 3, none⟩ = some (.int .u8 0) := by rw [cell_of_row w2 _ 3 _ _ _ HBOX2.out]; rfl
      have z4 : w2.cell? ⟨w.heap.size, 4, none⟩ = some (.int .u8 0) := by rw [cell_of_row w2 _ 4 _ _ _ HBOX2.out]; rfl
      have z5 : w2.cell? ⟨w.heap.size, 5, none⟩ = some (.int .u8 0) := by rw [cell_of_row w2 _ 5 _ _ _ HBOX2.out]; rfl
      have z6 : w2.cell? ⟨w.heap.size, 6, none⟩ = some (.int .u8 0) := by rw [cell_of_row w2 _ 6 _ _ _ HBOX2.out]; rfl
      have z7 : w2.cell? ⟨w.heap.size, 7, none⟩ = some (.int .u8 0) := by rw [cell_of_row w2 _ 7 _ _ _ HBOX2.out]; rfl
      have z8 : w2.cell? ⟨w.heap.size, 8, none⟩ = some (.int .u16 0) := by rw [cell_of_row w2 _ 8 _ _ _ HBOX2.out]; rfl
      have z9 : w2.cell? ⟨w.heap.size, 9, none⟩ = some (.int .u64 0) := by rw [cell_of_row w2 _ 9 _ _ _ HBOX2.out]; rfl
      have z10 : w2.cell? ⟨w.heap.size, 10, none⟩ = some (.int .u64 0) := by rw [cell_of_row w2 _ 10 _ _ _ HBOX2.out]; rfl
      have z11 : w2.cell? ⟨w.heap.size, 11, none⟩ = some (.slice none 0 0) := by rw [cell_of_row w2 _ 11 _ _ _ HBOX2.out]; rfl
      have fz : ∀ o, w2.frozen? ⟨w.heap.size, o, none⟩ = false := fun o => frozen_of_row w2 _ o _ _ HBOX2.out
      go_wp2_with fail
      obtain ⟨w7, hw7⟩ : ∃ u, putL w2 w.heap.size 0 [.int .u8 (q 0), .int .u8 (q 1), .int .u8 (q 2), .int .u8 (q 3), .int .u8 (q 4), .int .u8 (q 5), .int .u8 (q 6), .int .u8 (q 7), .int .u16 BB, .int .u64 (Mk.H XX), .int .u64 (Mk.L XX), .slice ab nb cb] = u := ⟨_, rfl⟩
      have P7 : Put w2 w7 w.heap.size #[.int .u8 (q 0), .int .u8 (q 1), .int .u8 (q 2), .int .u8 (q 3), .int .u8 (q 4), .int .u8 (q 5), .int .u8 (q 6), .int .u8 (q 7), .int .u16 BB, .int .u64 (Mk.H XX), .int .u64 (Mk.L XX), .slice ab nb cb] 32 := by rw [← hw7]; exact putL_is (us := [.int .u8 0, .int .u8 0, .int .u8 0, .int .u8 0, .int .u8 0, .int .u8 0, .int .u8 0, .int .u8 0, .int .u16 0, .int .u64 0, .int .u64 0, .slice none 0 0]) HBOX2.out rfl
      simp only [putL, Nat.zero_add, Nat.reduceAdd] at hw7
      rw [hw7]
      have h07 := HB2.out.grown P7.grown HB2.out.size (fun k e => by cases e; exact Nat.le_refl _)
      have hrep7 := ((HREP.out.off P7.grown (by omega)).mono (base' := w.heap.size) (by omega)).out h07
      have hr7 := P7.row
      have HREP7 := Lib.hid hrep7; have HR7 := Lib.hid hr7
      clear hw7 P7 h07 hrep7 hr7 z0 z1 z2 z3 z4 z5 z6 z7 z8 z9 z10 z11 fz
      have y0 : w7.cell? ⟨w.heap.size, 0, none⟩ = some (.int .u8 (q 0)) := by rw [cell_of_row w7 _ 0 _ _ _ HR7.out]; rfl
      have y1 : w7.cell? ⟨w.heap.size, 1, none⟩ = some (.int .u8 (q 1)) := by rw [cell_of_row w7 _ 1 _ _ _ HR7.out]; rfl
      have y2 : w7.cell? ⟨w.heap.size, 2, none⟩ = some (.int .u8 (q 2)) := by rw [cell_of_row w7 _ 2 _ _ _ HR7.out]; rfl
      have y3 : w7.cell? ⟨w.heap.size, 3, none⟩ = some (.int .u8 (q 3)) := by rw [cell_of_row w7 _ 3 _ _ _ HR7.out]; rfl
      have y4 : w7.cell? ⟨w.heap.size, 4, none⟩ = some (.int .u8 (q 4)) := by rw [cell_of_row w7 _ 4 _ _ _ HR7.out]; rfl
      have y5 : w7.cell? ⟨w.heap.size, 5, none⟩ = some (.int .u8 (q 5)) := by rw [cell_of_row w7 _ 5 _ _ _ HR7.out]; rfl
      have y6 : w7.cell? ⟨w.heap.size, 6, none⟩ = some (.int .u8 (q 6)) := by rw [cell_of_row w7 _ 6 _ _ _ HR7.out]; rfl
      have y7 : w7.cell? ⟨w.heap.size, 7, none⟩ = some (.int .u8 (q 7)) := by rw [cell_of_row w7 _ 7 _ _ _ HR7.out]; rfl
      have y8 : w7.cell? ⟨w.heap.size, 8, none⟩ = some (.int .u16 BB) := by rw [cell_of_row w7 _ 8 _ _ _ HR7.out]; rfl
      have y9 : w7.cell? ⟨w.heap.size, 9, none⟩ = some (.int .u64 (Mk.H XX)) := by rw [cell_of_row w7 _ 9 _ _ _ HR7.out]; rfl
      have y10 : w7.cell? ⟨w.heap.size, 10, none⟩ = some (.int .u64 (Mk.L XX)) := by rw [cell_of_row w7 _ 10 _ _ _ HR7.out]; rfl
      have y11 : w7.cell? ⟨w.heap.size, 11, none⟩ = some (.slice ab nb cb) := by rw [cell_of_row w7 _ 11 _ _ _ HR7.out]; rfl
      refine bodyPost_ret (v := .tuple #[rpc q BB XX ab nb cb, .int .i64 cd]) (by simp [results, Try.results17, go_sem, rpc, y0, y1, y2, y3, y4, y5, y6, y7, y8, y9, y10, y11]) rfl ⟨fun h => absurd h (by rw [HWO.out]; decide), fun _ => ?_⟩
      have h := HREP7.out
      rwa [HCD.out] at h
end Go.Proofs.Ytedhmoihlfjbdaa

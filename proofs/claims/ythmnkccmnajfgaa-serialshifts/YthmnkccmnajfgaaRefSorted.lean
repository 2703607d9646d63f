/-
  The reference's Sorted: an insertion into a list, one number after the other.
-/
import Derived.Test.YthmnkccmnajfgaaRefWide
import Derived.Deep.Onto
namespace Go.Proofs.Ythmnkccmnajfgaa
open Go.RowKit
set_option linter.unusedVariables false
def KeyLe (f x y : Int) : Prop := Ser.ahead x f ≤ Ser.ahead y f
def KeySorted (f : Int) (L : List Int) : Prop := L.Pairwise (KeyLe f)
theorem KeySorted.insert {f x : Int} {L : List Int} {k : Nat} (h : KeySorted f L) (h1 : ∀ y ∈ L.take k, KeyLe f y x) (h2 : ∀ y ∈ L.drop k, KeyLe f x y) : KeySorted f (L.take k ++ [x] ++ L.drop k) := by
  unfold KeySorted at *
  rw [List.append_assoc, List.pairwise_append]
  have h0 : (L.take k ++ L.drop k).Pairwise (KeyLe f) := by rw [List.take_append_drop]; exact h
  rw [List.pairwise_append] at h0
  refine ⟨h0.1, ?_, ?_⟩
  · rw [List.singleton_append, List.pairwise_cons]; exact ⟨h2, h0.2.1⟩
  · intro a ha b hb
    rw [List.singleton_append, List.mem_cons] at hb
    rcases hb with rfl | hb
    · exact h1 a ha
    · exact h0.2.2 a ha b hb
theorem perm_insert {x : Int} {L M : List Int} {k : Nat} (h : L.Perm M) : (L.take k ++ [x] ++ L.drop k).Perm (M ++ [x]) := by
  have e : (L.take k ++ [x] ++ L.drop k).Perm (L.take k ++ L.drop k ++ [x]) := by
    rw [List.append_assoc, List.append_assoc]
    exact List.Perm.append_left _ List.perm_append_comm
  rw [List.take_append_drop] at e
  exact e.trans (h.append_right [x])
theorem KeySorted.below {f x : Int} {L : List Int} {k : Nat} (h : KeySorted f L) (hk : k ≤ L.length) (h1 : k = 0 ∨ KeyLe f (L.getD (k - 1) 0) x) : ∀ y ∈ L.take k, KeyLe f y x := by
  intro y hy
  rcases h1 with rfl | h1
  · simp at hy
  · obtain ⟨i, hi, rfl⟩ := List.getElem_of_mem hy
    rw [List.length_take] at hi
    have hk0 : k - 1 < L.length := by omega
    rw [List.getD_eq_getElem?_getD, List.getElem?_eq_getElem hk0, Option.getD_some] at h1
    rw [List.getElem_take]
    by_cases e : i = k - 1
    · subst e; exact h1
    · have := (List.pairwise_iff_getElem.1 h) i (k - 1) (by omega) hk0 (by omega)
      unfold KeyLe at *; omega
theorem drop_step {f x : Int} {L : List Int} {k : Nat} (hk : k < L.length) (h : ∀ y ∈ L.drop (k + 1), KeyLe f x y) (h1 : KeyLe f x (L.getD k 0)) : ∀ y ∈ L.drop k, KeyLe f x y := by
  intro y hy
  rw [List.drop_eq_getElem_cons hk, List.mem_cons] at hy
  rcases hy with rfl | hy
  · rwa [List.getD_eq_getElem?_getD, List.getElem?_eq_getElem hk, Option.getD_some] at h1
  · exact h y hy
theorem take_succ_getD (zs : List Int) (k : Nat) (h : k < zs.length) : zs.take (k + 1) = zs.take k ++ [zs.getD k 0] := by
  rw [List.take_succ_eq_append_getElem h, List.getD_eq_getElem?_getD, List.getElem?_eq_getElem h]; rfl
theorem row_take {W : World} {base g k cp : Nat} {L : List Int} (h : W.ownsRow base 22 1 (.slice (some ⟨g, 0, none⟩) k cp) k (L.map (Value.int .u16))) (t : Nat) :
    ∀ j u, ((L.take t).map (Value.int .u16))[j]? = some u → W.cell? ((⟨g, 0, none⟩ : Addr).add j) = some u := fun j u hu => by
  refine h.cells (by simp [Value.ownBlock]) j u ?_
  rw [List.map_take, List.getElem?_take] at hu
  split at hu
  · exact hu
  · cases hu
theorem row_drop {W : World} {base g k cp : Nat} {L : List Int} (h : W.ownsRow base 22 1 (.slice (some ⟨g, 0, none⟩) k cp) k (L.map (Value.int .u16))) (t : Nat) :
    ∀ j u, ((L.drop t).map (Value.int .u16))[j]? = some u → W.cell? ((⟨g, t, none⟩ : Addr).add j) = some u := fun j u hu => by
  rw [List.map_drop, List.getElem?_drop] at hu
  have := h.cells (g := g) (by simp [Value.ownBlock]) (t + j) u hu
  have e1 : (⟨g, 0, none⟩ : Addr).add (t + j) = ⟨g, t + j, none⟩ := by unfold Addr.add; split <;> simp_all
  have e2 : (⟨g, t, none⟩ : Addr).add j = ⟨g, t + j, none⟩ := by unfold Addr.add; split <;> simp_all
  rw [e2, ← e1]; exact this
/-- Behind 'next := append([]uint16{}, out[:at]...)'. -/
theorem refs_one {w w6 w7 : World} {b off k g cp t : Nat} {x : Int} {v1 : Value} {L : List Int} (hb : b < w.heap.size) (hs : w.heap.size ≤ w6.heap.size) (hg : g < w6.heap.size)
    (C6 : w6.cell? ⟨b, off + k, none⟩ = some (.int .u16 x)) (HO : (w6.alloc (.cells #[] 22)).ownsRow w.heap.size 22 1 (.slice (some ⟨g, 0, none⟩) k cp) k (L.map (Value.int .u16))) (HB : Below w.heap.size w w6)
    (h1 : w7.ownsRow w6.heap.size 22 1 v1 (0 + t) ([] ++ (L.take t).map (Value.int .u16))) (hg1 : (w6.alloc (.cells #[] 22)).grownBy w7 (Value.slice (some ⟨w6.heap.size, 0, none⟩) 0 0).ownBlock) :
    w7.cell? ⟨b, off + k, none⟩ = some (.int .u16 x) ∧ Hid (w7.ownsRow w.heap.size 22 1 (.slice (some ⟨g, 0, none⟩) k cp) k (L.map (Value.int .u16))) ∧ Hid (Below w.heap.size w w7) ∧ Hid (w7.ownsRow w6.heap.size 22 1 v1 t ((L.take t).map (Value.int .u16))) ∧ w6.heap.size < w7.heap.size := by
  have hob : (Value.slice (some ⟨w6.heap.size, 0, none⟩) 0 0).ownBlock = some w6.heap.size := by simp [Value.ownBlock]
  rw [hob] at hg1
  refine ⟨?_, HO.kept hg1 (.inr ?_), (HB.alloc hs _).grown hg1 (by simp; omega) (fun j hj => by injection hj with hj; omega), (show World.ownsRow _ _ _ _ _ _ _ by simpa using h1), ?_⟩
  · exact hg1.cell ((World.cell?_of_block (Below.heap_alloc _ _ _ (by show b < _; omega))).trans C6) (fun h => by injection h with h; simp at h; omega)
  · simp [Value.ownBlock]; omega
  · have := hg1.size; simp at this; omega
/-- Behind 'next = append(next, ns[i])'. -/
theorem refs_two {w w6 w7 w8 : World} {k g cp t : Nat} {x : Int} {v1 v2 : Value} {L : List Int} (hs : w.heap.size ≤ w6.heap.size) (hg : g < w6.heap.size) (h7 : w6.heap.size < w7.heap.size)
    (HO : w7.ownsRow w.heap.size 22 1 (.slice (some ⟨g, 0, none⟩) k cp) k (L.map (Value.int .u16))) (HB : Below w.heap.size w w7) (HN : w7.ownsRow w6.heap.size 22 1 v1 t ((L.take t).map (Value.int .u16)))
    (h1 : w8.ownsRow w6.heap.size 22 1 v2 (t + 1) ((L.take t).map (Value.int .u16) ++ [.int .u16 x])) (hg1 : (w7.alloc (.cells #[.int .u16 x] 22)).grownBy w8 v1.ownBlock) :
    Hid (w8.ownsRow w.heap.size 22 1 (.slice (some ⟨g, 0, none⟩) k cp) k (L.map (Value.int .u16))) ∧ Hid (Below w.heap.size w w8) ∧ Hid (w8.ownsRow w6.heap.size 22 1 v2 (t + 1) ((L.take t ++ [x]).map (Value.int .u16))) ∧ w6.heap.size < w8.heap.size := by
  refine ⟨(HO.alloc _).kept hg1 (.inr ?_), (HB.alloc (by omega) _).grown hg1 (by simp; omega) (fun j hj => by have := (HN.lt j hj).1; omega), by rw [List.map_append]; exact h1, ?_⟩
  · intro h
    have := (HN.lt g (by rw [← h]; simp [Value.ownBlock])).1
    omega
  · have := hg1.size; simp at this; omega
/-- Behind 'out = append(next, out[at:]...)'. -/
theorem refs_last {w9 : World} {base t k : Nat} {v3 : Value} {X : List Value} {L : List Int} (hL : L.length = k) (h : w9.ownsRow base 22 1 v3 (t + 1 + 0) (X ++ [])) : w9.ownsRow base 22 1 v3 (t + 1 + (k - k)) (X ++ (L.drop k).map (Value.int .u16)) := by
  rw [show L.drop k = [] by rw [← hL]; simp]; simpa using h
theorem refs_three {w w6 w8 w9 : World} {k t : Nat} {x : Int} {v2 v3 : Value} {L : List Int} (hL : L.length = k) (ht : t ≤ k) (hs : w.heap.size ≤ w6.heap.size) (h8 : w6.heap.size < w8.heap.size)
    (HB : Below w.heap.size w w8) (HN : w8.ownsRow w6.heap.size 22 1 v2 (t + 1) ((L.take t ++ [x]).map (Value.int .u16)))
    (h1 : w9.ownsRow w6.heap.size 22 1 v3 (t + 1 + (k - t)) ((L.take t ++ [x]).map (Value.int .u16) ++ (L.drop t).map (Value.int .u16))) (hg1 : w8.grownBy w9 v2.ownBlock) (hnil : v3 = .slice none 0 0 → v2 = .slice none 0 0) :
    Hid (Below w.heap.size w w9) ∧ Hid (w9.ownsRow w.heap.size 22 1 v3 (k + 1) ((L.take t ++ [x] ++ L.drop t).map (Value.int .u16))) ∧ ∃ g9 c9, v3 = .slice (some ⟨g9, 0, none⟩) (k + 1) c9 := by
  rw [show t + 1 + (k - t) = k + 1 by omega] at h1
  refine ⟨HB.grown hg1 (by omega) (fun j hj => by have := (HN.lt j hj).1; omega), (show World.ownsRow _ _ _ _ _ _ _ by rw [← List.map_append] at h1; exact World.ownsRow.mono h1 hs), ?_⟩
  rcases h1.2 with ⟨rfl, h⟩ | ⟨g9, c9, cur, rfl, _⟩
  · omega
  · exact ⟨g9, c9, rfl⟩
theorem Try.infoU16 : (Try.prog.info? 22).map (fun i => (i.zero, i.size, i.bytes)) = some (some (.int .u16 0), 1, 2) := by kernel_rfl
def RefSortedPost (zs : List Int) (n : Nat) (w : World) (e : Ending) (w' : World) : Prop :=
  ∃ v L, e = .returned v ∧ w'.ownsRow w.heap.size 22 1 v n (L.map (Value.int .u16)) ∧ L.Perm (zs.take n) ∧ KeySorted (zs.getD 0 0) L ∧ Below w.heap.size w w'
set_option maxHeartbeats 2000000 in
theorem refsorted_any (a : Option Addr) (len cap : Nat) (zs : List Int) (w : World) (b off : Nat) (hl : len ≤ 200) (hzl : len ≤ zs.length) (ha : 0 < len → a = some ⟨b, off, none⟩) (hc : ∀ i, i < len → b < w.heap.size ∧ w.cell? ⟨b, off + i, none⟩ = some (.int .u16 (zs.getD i 0)) ∧ (Lit.int .u16 (zs.getD i 0)).wf = true) :
    Calls Try.prog 29 #[.slice a len cap] w (RefSortedPost zs len w) := by
  obtain ⟨i0, hi, hz0, hz1, hz2⟩ := info_parts Try.infoU16
  have HC := Lib.hid hc; clear hc
  have HA := Lib.hid ha; clear ha
  have HI := Lib.hid hi; have HZ0 := Lib.hid hz0; have HZ1 := Lib.hid hz1; have HZ2 := Lib.hid hz2
  clear hi hz0 hz1 hz2
  go_enter Try.func29, Try.ntmps29
  go_wp2
  go_loopg [3, 4] (len + 1) (fun g1 v i wr => ∃ (k g cp : Nat) (L : List Int), k ≤ len ∧ len + 1 - k ≤ g1 ∧ i = .int .i64 k ∧ v = .slice (some ⟨g, 0, none⟩) k cp ∧ L.length = k ∧ Hid (wr.ownsRow w.heap.size 22 1 v k (L.map (Value.int .u16))) ∧ Hid (Below w.heap.size w wr) ∧ Hid (L.Perm (zs.take k)) ∧ Hid (KeySorted (zs.getD 0 0) L))
  case atStart => exact ⟨0, w.heap.size, 0, [], Nat.zero_le _, by omega, rfl, rfl, rfl, Lib.hid (World.ownsRow_made w _ 0 (Nat.le_refl _) (by decide) rfl), Lib.hid ((Below.refl _ _).alloc (Nat.le_refl _) _), Lib.hid (by simp), Lib.hid List.Pairwise.nil⟩
  case round =>
    obtain ⟨W5, e5⟩ : ∃ W, W = wr := ⟨_, rfl⟩
    subst e5
    obtain ⟨k, g, cp, L, hk, hg1, rfl, rfl, hL, HO, HBk, HP, HKS⟩ := hrel
    by_cases hlt : k < len
    · have hltz : (k : Int) < (len : Int) := by omega
      obtain ⟨hb, hck, hwf⟩ := HC.out k hlt
      obtain ⟨_, hc0, hwf0⟩ := HC.out 0 (by omega)
      have hgb := HO.out.lt g (by simp [Value.ownBlock])
      obtain rfl := HA.out (by omega)
      have hwf := wf_u16 hwf
      have hwf0 := wf_u16 hwf0
      have ck0 : W5.cell? ⟨b, off + k, none⟩ = some (.int .u16 (zs.getD k 0)) := (HBk.out.cell (p := ⟨b, off + k, none⟩) hb).trans hck
      have cf0 : W5.cell? ⟨b, off, none⟩ = some (.int .u16 (zs.getD 0 0)) := (HBk.out.cell (p := ⟨b, off, none⟩) hb).trans (by simpa using hc0)
      have CK := Lib.hid ck0; have CF := Lib.hid cf0
      have hlc : k ≤ cp := by
        rcases HO.out.2 with ⟨h, _⟩ | ⟨g', cp', cur, h, _, _, h1, _⟩
        · cases h
        · cases h; exact h1
      have hts := take_succ_getD zs k (by omega)
      generalize zs.getD k 0 = x at *
      generalize zs.getD 0 0 = f at *
      have HTS := Lib.hid hts
      clear hck hc0 ck0 cf0 hts
      obtain ⟨hx1, hx2⟩ := hwf
      obtain ⟨hf1, hf2⟩ := hwf0
      go_wp2
      go_loopg [5] (k + 1) (fun g2 va wr2 => ∃ (t n0 : Nat), t ≤ k ∧ t + 1 ≤ g2 ∧ va = .int .i64 t ∧ Hid (wr2 = W5.drewN n0) ∧ Hid (∀ y ∈ L.drop t, KeyLe f x y))
      case atStart => exact ⟨k, 0, Nat.le_refl _, Nat.le_refl _, rfl, Lib.hid rfl, Lib.hid (by rw [← hL]; simp)⟩
      case round =>
        obtain ⟨t, n0, ht, hg2, rfl, HW2, HD⟩ := hrel
        have ckq : wr.cell? ⟨b, off + k, none⟩ = some (.int .u16 x) := by rw [HW2.out]; exact CK.out
        have cfq : wr.cell? ⟨b, off, none⟩ = some (.int .u16 f) := by rw [HW2.out]; exact CF.out
        have zlen : (0 : Int) < (len : Int) := by omega
        have bx := Ser.ahead_bd x f
        by_cases ht0 : 0 < t
        · obtain ⟨tp, rfl⟩ : ∃ tp, t = tp + 1 := ⟨t - 1, by omega⟩
          have hLt : tp < L.length := by omega
          have cq : wr.cell? ⟨g, tp, none⟩ = some (.int .u16 (L.getD tp 0)) := by
            rw [HW2.out]
            show W5.cell? _ = _
            rw [HO.out.cellAt tp (by omega), List.getElem?_map, List.getElem?_eq_getElem hLt, List.getD_eq_getElem?_getD, List.getElem?_eq_getElem hLt]; rfl
          have hy : 0 ≤ L.getD tp 0 ∧ L.getD tp 0 < 65536 := by
            have hm : L.getD tp 0 ∈ L := by rw [List.getD_eq_getElem?_getD, List.getElem?_eq_getElem hLt]; simp
            have hm2 := HP.out.mem_iff.1 hm
            obtain ⟨j, hj, hjj⟩ := List.getElem_of_mem hm2
            rw [List.length_take] at hj
            rw [List.getElem_take] at hjj
            have := wf_u16 (HC.out j (by omega)).2.2
            rw [List.getD_eq_getElem?_getD, List.getElem?_eq_getElem (by omega), Option.getD_some, hjj] at this
            exact this
          generalize hyy : L.getD tp 0 = y at cq hy
          have YY := Lib.hid hyy; clear hyy
          have p0 : (0 : Int) ≤ (tp : Int) + 1 := by omega
          have p1 : (0 : Int) < (tp : Int) + 1 := by omega
          have p2 : (tp : Int) < (k : Int) := by omega
          have hwp : IntKind.i64.wrap (tp : Int) = (tp : Int) := by rw [IntKind.wrap_i64]; omega
          obtain ⟨hy1, hy2⟩ := hy
          by_cases hgt : Ser.ahead x f < Ser.ahead y f
          · go_wp2_with fail
            go_quiet ((go_at_call 10; exact Calls.quiet_of_same ((refahead_any _ _ (by omega) (by omega) (by omega) (by omega) _).mono fun _ _ ⟨a, b⟩ => ⟨a, b.symm⟩)))
            go_wp2
            go_roundg (tp + 1)
            case measure => omega
            case rel => exact ⟨tp, n0 + nq, by omega, Nat.le_refl _, by first | rfl | go_num, Lib.hid (by rw [HW2.out, World.drewN_drewN]), Lib.hid (drop_step hLt HD.out (by rw [YY.out]; unfold KeyLe; omega))⟩
          · go_wp2_with fail
            go_quiet ((go_at_call 10; exact Calls.quiet_of_same ((refahead_any _ _ (by omega) (by omega) (by omega) (by omega) _).mono fun _ _ ⟨a, b⟩ => ⟨a, b.symm⟩)))
            have ht1 : ∀ y' ∈ L.take (tp + 1), KeyLe f y' x := KeySorted.below HKS.out (by omega) (.inr (by rw [Nat.add_sub_cancel, YY.out]; unfold KeyLe; omega))
            have HT1 := Lib.hid ht1; clear ht1
            have HO6 : Hid ((wr.drewN nq).ownsRow w.heap.size 22 1 (.slice (some ⟨g, 0, none⟩) k cp) k (L.map (Value.int .u16))) := Lib.hid (by rw [HW2.out]; exact HO.out.kept (gb_trans (grownBy_drewN _ _ none) (grownBy_drewN _ _ _)) (.inr (by simp [Value.ownBlock])))
            have HB6 : Hid (Below w.heap.size w (wr.drewN nq)) := Lib.hid (by rw [HW2.out]; exact HBk.out.grown (gb_trans (grownBy_drewN _ _ none) (grownBy_drewN _ _ _)) HBk.out.size (fun j h => by cases h))
            have C6 : (wr.drewN nq).cell? ⟨b, off + k, none⟩ = some (.int .u16 x) := ckq
            have Z6 : g < (wr.drewN nq).heap.size := by rw [HW2.out]; exact hgb.2
            clear ckq cfq cq HW2
            generalize wr.drewN nq = w6 at HO6 HB6 C6 Z6 ⊢
            rw [show ((tp : Int) + 1) = ((tp + 1 : Nat) : Int) from by omega]
            clear YY hLt ht0 hg2 p0 p1 p2 hwp
            generalize tp + 1 = t at HD HT1 ht ⊢
            have hsz6 : w.heap.size ≤ w6.heap.size := HB6.out.size
            have n1 : ∀ W : World, W.ownsRow w.heap.size 22 1 (.slice (some ⟨g, 0, none⟩) k cp) k (L.map (Value.int .u16)) → ∀ j u, ((L.take t).map (Value.int .u16))[j]? = some u → W.cell? ((⟨g, 0, none⟩ : Addr).add j) = some u := fun W h => row_take h t
            have n3 : ∀ W : World, W.ownsRow w.heap.size 22 1 (.slice (some ⟨g, 0, none⟩) k cp) k (L.map (Value.int .u16)) → ∀ j u, ((L.drop t).map (Value.int .u16))[j]? = some u → W.cell? ((⟨g, t, none⟩ : Addr).add j) = some u := fun W h => row_drop h t
            have N1 := Lib.hid n1; have N3 := Lib.hid n3; clear n1 n3
            have hl1 : ((L.take t).map (Value.int .u16)).length = t * 1 := by simp; omega
            have hl3 : ((L.drop t).map (Value.int .u16)).length = (k - t) * 1 := by simp; omega
            have HL1 := Lib.hid hl1; have HL3 := Lib.hid hl3; clear hl1 hl3
            have hO0 : (w6.alloc (.cells #[] 22)).ownsRow w6.heap.size 22 1 (.slice (some ⟨w6.heap.size, 0, none⟩) 0 0) 0 [] := World.ownsRow_made w6 _ 0 (Nat.le_refl _) (by decide) rfl
            have hO6 := HO6.out.alloc (.cells #[] 22)
            have HO0 := Lib.hid hO0; have HO60 := Lib.hid hO6; clear hO0 hO6
            by_cases htc : t = cp
            · obtain rfl : t = k := by omega
              obtain rfl : cp = t := by omega
              clear htc
              go_wp2_with (first
                | (at_builtin; refine wpList_append_own _ rfl (.tmp 41) (.tmp 44) 32 rfl w6.heap.size 22 i0 (.int .u16 0) 1 2 Try.underlying32 HI.out HZ0.out HZ1.out HZ2.out rfl (by decide) _ _ _ rfl HO0.out ⟨g, 0, none⟩ cp cp ((L.take cp).map (Value.int .u16)) rfl HL1.out (N1.out _ HO60.out) (by intro u hu; obtain ⟨_, _, rfl⟩ := List.mem_map.1 hu; rfl) (by unfold maxLen; omega) (by omega) (by simp) ?_; intro v1 w7 hown1 hgrow1 _; obtain ⟨C7, HO7, HB7, HN1, Z7⟩ := refs_one hb hsz6 Z6 C6 HO60.out HB6.out hown1 hgrow1; clear hown1 hgrow1)
                | (at_builtin; refine wpList_append_own _ rfl (.tmp 46) (.tmp 51) 32 rfl w6.heap.size 22 i0 (.int .u16 0) 1 2 Try.underlying32 HI.out HZ0.out HZ1.out HZ2.out rfl (by decide) _ _ _ rfl (HN1.out.alloc _) ⟨w7.heap.size, 0, none⟩ 1 1 [.int .u16 x] rfl rfl (cell_one_new _ _ _) (by intro u hu; simp at hu; subst hu; rfl) (by unfold maxLen; omega) (by omega) (by simp; omega) ?_; intro v2 w8 hown2 hgrow2 _; obtain ⟨HO8, HB8, HN2, Z8⟩ := refs_two hsz6 Z6 Z7 HO7.out HB7.out HN1.out hown2 hgrow2; clear hown2 hgrow2)
                | (at_builtin; refine wpList_append_own _ rfl (.tmp 53) (.tmp 56) 32 rfl w6.heap.size 22 i0 (.int .u16 0) 1 2 Try.underlying32 HI.out HZ0.out HZ1.out HZ2.out rfl (by decide) _ _ _ rfl HN2.out ⟨g, 0, none⟩ 0 0 [] rfl rfl (by intro j u h; simp at h) (by intro u hu; cases hu) (by unfold maxLen; omega) (by omega) (by omega) ?_; intro v3 w9 hown3 hgrow3 hnil3; obtain ⟨HB9, HN3, g9, c9, rfl⟩ := refs_three hL ht hsz6 Z8 HB8.out HN2.out (refs_last hL hown3) hgrow3 (fun h => (hnil3.1 h).1); clear hown3 hgrow3 hnil3))
              go_roundg (len + 1 - (cp + 1))
              case measure => omega
              case rel => exact ⟨cp + 1, g9, c9, L.take cp ++ [x] ++ L.drop cp, by omega, by omega, by go_num, rfl, by simp; omega, HN3, HB9, Lib.hid (by rw [HTS.out]; exact perm_insert HP.out), Lib.hid (KeySorted.insert HKS.out HT1.out HD.out)⟩
            · have htc1 : t < cp := by omega
              go_wp2_with (first
                | (at_builtin; refine wpList_append_own _ rfl (.tmp 41) (.tmp 44) 32 rfl w6.heap.size 22 i0 (.int .u16 0) 1 2 Try.underlying32 HI.out HZ0.out HZ1.out HZ2.out rfl (by decide) _ _ _ rfl HO0.out ⟨g, 0, none⟩ t cp ((L.take t).map (Value.int .u16)) rfl HL1.out (N1.out _ HO60.out) (by intro u hu; obtain ⟨_, _, rfl⟩ := List.mem_map.1 hu; rfl) (by unfold maxLen; omega) (by omega) (by simp) ?_; intro v1 w7 hown1 hgrow1 _; obtain ⟨C7, HO7, HB7, HN1, Z7⟩ := refs_one hb hsz6 Z6 C6 HO60.out HB6.out hown1 hgrow1; clear hown1 hgrow1)
                | (at_builtin; refine wpList_append_own _ rfl (.tmp 46) (.tmp 51) 32 rfl w6.heap.size 22 i0 (.int .u16 0) 1 2 Try.underlying32 HI.out HZ0.out HZ1.out HZ2.out rfl (by decide) _ _ _ rfl (HN1.out.alloc _) ⟨w7.heap.size, 0, none⟩ 1 1 [.int .u16 x] rfl rfl (cell_one_new _ _ _) (by intro u hu; simp at hu; subst hu; rfl) (by unfold maxLen; omega) (by omega) (by simp; omega) ?_; intro v2 w8 hown2 hgrow2 _; obtain ⟨HO8, HB8, HN2, Z8⟩ := refs_two hsz6 Z6 Z7 HO7.out HB7.out HN1.out hown2 hgrow2; clear hown2 hgrow2)
                | (at_builtin; refine wpList_append_own _ rfl (.tmp 53) (.tmp 56) 32 rfl w6.heap.size 22 i0 (.int .u16 0) 1 2 Try.underlying32 HI.out HZ0.out HZ1.out HZ2.out rfl (by decide) _ _ _ rfl HN2.out ⟨g, t, none⟩ (k - t) (cp - t) ((L.drop t).map (Value.int .u16)) rfl HL3.out (N3.out _ HO8.out) (by intro u hu; obtain ⟨_, _, rfl⟩ := List.mem_map.1 hu; rfl) (by unfold maxLen; omega) (by omega) (by omega) ?_; intro v3 w9 hown3 hgrow3 hnil3; obtain ⟨HB9, HN3, g9, c9, rfl⟩ := refs_three hL ht hsz6 Z8 HB8.out HN2.out hown3 hgrow3 (fun h => (hnil3.1 h).1); clear hown3 hgrow3 hnil3))
              go_roundg (len + 1 - (k + 1))
              case measure => omega
              case rel => exact ⟨k + 1, g9, c9, L.take t ++ [x] ++ L.drop t, by omega, by omega, by go_num, rfl, by simp; omega, HN3, HB9, Lib.hid (by rw [HTS.out]; exact perm_insert HP.out), Lib.hid (KeySorted.insert HKS.out HT1.out HD.out)⟩
        · have ht1 : ∀ y' ∈ L.take t, KeyLe f y' x := by obtain rfl : t = 0 := by omega
                                                         simp
          have HT1 := Lib.hid ht1; clear ht1
          have hd0 : decide ((t : Int) > 0) = false := decide_eq_false (by omega)
          have hd1 : ¬ (0 : Int) < (t : Int) := by omega
          go_wp2_with fail
          go_quiet (fail)
          have HO6 : Hid ((wr.drewN nq).ownsRow w.heap.size 22 1 (.slice (some ⟨g, 0, none⟩) k cp) k (L.map (Value.int .u16))) := Lib.hid (by rw [HW2.out]; exact HO.out.kept (gb_trans (grownBy_drewN _ _ none) (grownBy_drewN _ _ _)) (.inr (by simp [Value.ownBlock])))
          have HB6 : Hid (Below w.heap.size w (wr.drewN nq)) := Lib.hid (by rw [HW2.out]; exact HBk.out.grown (gb_trans (grownBy_drewN _ _ none) (grownBy_drewN _ _ _)) HBk.out.size (fun j h => by cases h))
          have C6 : (wr.drewN nq).cell? ⟨b, off + k, none⟩ = some (.int .u16 x) := ckq
          have Z6 : g < (wr.drewN nq).heap.size := by rw [HW2.out]; exact hgb.2
          clear ckq cfq HW2
          generalize wr.drewN nq = w6 at HO6 HB6 C6 Z6 ⊢
          have hsz6 : w.heap.size ≤ w6.heap.size := HB6.out.size
          have n1 : ∀ W : World, W.ownsRow w.heap.size 22 1 (.slice (some ⟨g, 0, none⟩) k cp) k (L.map (Value.int .u16)) → ∀ j u, ((L.take t).map (Value.int .u16))[j]? = some u → W.cell? ((⟨g, 0, none⟩ : Addr).add j) = some u := fun W h => row_take h t
          have n3 : ∀ W : World, W.ownsRow w.heap.size 22 1 (.slice (some ⟨g, 0, none⟩) k cp) k (L.map (Value.int .u16)) → ∀ j u, ((L.drop t).map (Value.int .u16))[j]? = some u → W.cell? ((⟨g, t, none⟩ : Addr).add j) = some u := fun W h => row_drop h t
          have N1 := Lib.hid n1; have N3 := Lib.hid n3; clear n1 n3
          have hl1 : ((L.take t).map (Value.int .u16)).length = t * 1 := by simp; omega
          have hl3 : ((L.drop t).map (Value.int .u16)).length = (k - t) * 1 := by simp; omega
          have HL1 := Lib.hid hl1; have HL3 := Lib.hid hl3; clear hl1 hl3
          have hO0 : (w6.alloc (.cells #[] 22)).ownsRow w6.heap.size 22 1 (.slice (some ⟨w6.heap.size, 0, none⟩) 0 0) 0 [] := World.ownsRow_made w6 _ 0 (Nat.le_refl _) (by decide) rfl
          have hO6 := HO6.out.alloc (.cells #[] 22)
          have HO0 := Lib.hid hO0; have HO60 := Lib.hid hO6; clear hO0 hO6
          by_cases htc : t = cp
          · obtain rfl : t = k := by omega
            obtain rfl : cp = t := by omega
            clear htc
            go_wp2_with (first
              | (at_builtin; refine wpList_append_own _ rfl (.tmp 41) (.tmp 44) 32 rfl w6.heap.size 22 i0 (.int .u16 0) 1 2 Try.underlying32 HI.out HZ0.out HZ1.out HZ2.out rfl (by decide) _ _ _ rfl HO0.out ⟨g, 0, none⟩ cp cp ((L.take cp).map (Value.int .u16)) rfl HL1.out (N1.out _ HO60.out) (by intro u hu; obtain ⟨_, _, rfl⟩ := List.mem_map.1 hu; rfl) (by unfold maxLen; omega) (by omega) (by simp) ?_; intro v1 w7 hown1 hgrow1 _; obtain ⟨C7, HO7, HB7, HN1, Z7⟩ := refs_one hb hsz6 Z6 C6 HO60.out HB6.out hown1 hgrow1; clear hown1 hgrow1)
              | (at_builtin; refine wpList_append_own _ rfl (.tmp 46) (.tmp 51) 32 rfl w6.heap.size 22 i0 (.int .u16 0) 1 2 Try.underlying32 HI.out HZ0.out HZ1.out HZ2.out rfl (by decide) _ _ _ rfl (HN1.out.alloc _) ⟨w7.heap.size, 0, none⟩ 1 1 [.int .u16 x] rfl rfl (cell_one_new _ _ _) (by intro u hu; simp at hu; subst hu; rfl) (by unfold maxLen; omega) (by omega) (by simp; omega) ?_; intro v2 w8 hown2 hgrow2 _; obtain ⟨HO8, HB8, HN2, Z8⟩ := refs_two hsz6 Z6 Z7 HO7.out HB7.out HN1.out hown2 hgrow2; clear hown2 hgrow2)
              | (at_builtin; refine wpList_append_own _ rfl (.tmp 53) (.tmp 56) 32 rfl w6.heap.size 22 i0 (.int .u16 0) 1 2 Try.underlying32 HI.out HZ0.out HZ1.out HZ2.out rfl (by decide) _ _ _ rfl HN2.out ⟨g, 0, none⟩ 0 0 [] rfl rfl (by intro j u h; simp at h) (by intro u hu; cases hu) (by unfold maxLen; omega) (by omega) (by omega) ?_; intro v3 w9 hown3 hgrow3 hnil3; obtain ⟨HB9, HN3, g9, c9, rfl⟩ := refs_three hL ht hsz6 Z8 HB8.out HN2.out (refs_last hL hown3) hgrow3 (fun h => (hnil3.1 h).1); clear hown3 hgrow3 hnil3))
            go_roundg (len + 1 - (cp + 1))
            case measure => omega
            case rel => exact ⟨cp + 1, g9, c9, L.take cp ++ [x] ++ L.drop cp, by omega, by omega, by go_num, rfl, by simp; omega, HN3, HB9, Lib.hid (by rw [HTS.out]; exact perm_insert HP.out), Lib.hid (KeySorted.insert HKS.out HT1.out HD.out)⟩
          · have htc1 : t < cp := by omega
            go_wp2_with (first
              | (at_builtin; refine wpList_append_own _ rfl (.tmp 41) (.tmp 44) 32 rfl w6.heap.size 22 i0 (.int .u16 0) 1 2 Try.underlying32 HI.out HZ0.out HZ1.out HZ2.out rfl (by decide) _ _ _ rfl HO0.out ⟨g, 0, none⟩ t cp ((L.take t).map (Value.int .u16)) rfl HL1.out (N1.out _ HO60.out) (by intro u hu; obtain ⟨_, _, rfl⟩ := List.mem_map.1 hu; rfl) (by unfold maxLen; omega) (by omega) (by simp) ?_; intro v1 w7 hown1 hgrow1 _; obtain ⟨C7, HO7, HB7, HN1, Z7⟩ := refs_one hb hsz6 Z6 C6 HO60.out HB6.out hown1 hgrow1; clear hown1 hgrow1)
              | (at_builtin; refine wpList_append_own _ rfl (.tmp 46) (.tmp 51) 32 rfl w6.heap.size 22 i0 (.int .u16 0) 1 2 Try.underlying32 HI.out HZ0.out HZ1.out HZ2.out rfl (by decide) _ _ _ rfl (HN1.out.alloc _) ⟨w7.heap.size, 0, none⟩ 1 1 [.int .u16 x] rfl rfl (cell_one_new _ _ _) (by intro u hu; simp at hu; subst hu; rfl) (by unfold maxLen; omega) (by omega) (by simp; omega) ?_; intro v2 w8 hown2 hgrow2 _; obtain ⟨HO8, HB8, HN2, Z8⟩ := refs_two hsz6 Z6 Z7 HO7.out HB7.out HN1.out hown2 hgrow2; clear hown2 hgrow2)
              | (at_builtin; refine wpList_append_own _ rfl (.tmp 53) (.tmp 56) 32 rfl w6.heap.size 22 i0 (.int .u16 0) 1 2 Try.underlying32 HI.out HZ0.out HZ1.out HZ2.out rfl (by decide) _ _ _ rfl HN2.out ⟨g, t, none⟩ (k - t) (cp - t) ((L.drop t).map (Value.int .u16)) rfl HL3.out (N3.out _ HO8.out) (by intro u hu; obtain ⟨_, _, rfl⟩ := List.mem_map.1 hu; rfl) (by unfold maxLen; omega) (by omega) (by omega) ?_; intro v3 w9 hown3 hgrow3 hnil3; obtain ⟨HB9, HN3, g9, c9, rfl⟩ := refs_three hL ht hsz6 Z8 HB8.out HN2.out hown3 hgrow3 (fun h => (hnil3.1 h).1); clear hown3 hgrow3 hnil3))
            go_roundg (len + 1 - (k + 1))
            case measure => omega
            case rel => exact ⟨k + 1, g9, c9, L.take t ++ [x] ++ L.drop t, by omega, by omega, by go_num, rfl, by simp; omega, HN3, HB9, Lib.hid (by rw [HTS.out]; exact perm_insert HP.out), Lib.hid (KeySorted.insert HKS.out HT1.out HD.out)⟩
    · obtain rfl : k = len := by omega
      have hltz : ¬ (k : Int) < (k : Int) := by omega
      go_wp2
      go_ret
      exact ⟨_, L, rfl, HO.out, HP.out, HKS.out, HBk.out⟩
end Go.Proofs.Ythmnkccmnajfgaa

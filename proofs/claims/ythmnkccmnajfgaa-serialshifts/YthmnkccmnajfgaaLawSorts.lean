/-
  SerialSorts' walk.
-/
import Derived.Test.YthmnkccmnajfgaaRefSorted
import Derived.Test.YthmnkccmnajfgaaSymAll
import Derived.Laws.AppendOwnNone
namespace Go.Proofs.Ythmnkccmnajfgaa
open Go.RowKit Go.Sort
set_option linter.unusedVariables false
set_option maxHeartbeats 1000000 in
theorem sameseqs_eq (a1 a2 : Option Addr) (n c1 c2 g1 o1 g2 o2 : Nat) (G : Nat → Int) (w : World) (hn : n ≤ 9223372036854775807) (ha1 : Hid (0 < n → a1 = some ⟨g1, o1, none⟩)) (ha2 : Hid (0 < n → a2 = some ⟨g2, o2, none⟩))
    (hc1 : Hid (∀ i, i < n → w.cell? ⟨g1, o1 + i, none⟩ = some (.int .u16 (G i)))) (hc2 : Hid (∀ i, i < n → w.cell? ⟨g2, o2 + i, none⟩ = some (.int .u16 (G i)))) :
    Calls Try.prog 28 #[.slice a1 n c1, .slice a2 n c2] w (Drawn (.bool true) w) := by
  have hne : ((n : Int) != (n : Int)) = false := by simp
  go_enter Try.func28, Try.ntmps28
  go_wp2
  go_loopw [5] (fun i wr => ∃ (k m : Nat), k ≤ n ∧ i = .int .i64 k ∧ Hid (wr = w.drewN m)) (fun i _ => n - (intOf i).toNat)
  case atStart => exact ⟨0, 0, Nat.zero_le _, rfl, Lib.hid rfl⟩
  case round =>
    obtain ⟨k, m, hk, rfl, HW⟩ := hrel
    by_cases hlt : k < n
    · have hltz : (k : Int) < (n : Int) := by omega
      obtain rfl := ha1.out (by omega)
      obtain rfl := ha2.out (by omega)
      have d1 : wr.cell? ⟨g1, o1 + k, none⟩ = some (.int .u16 (G k)) := by rw [HW.out]; exact hc1.out k hlt
      have d2 : wr.cell? ⟨g2, o2 + k, none⟩ = some (.int .u16 (G k)) := by rw [HW.out]; exact hc2.out k hlt
      generalize G k = x at d1 d2
      have hx : (x != x) = false := by simp
      go_wp2_with fail
      go_quiet (fail)
      go_wp2
      go_roundw
      case rel => exact ⟨k + 1, m + nq, by omega, by go_num, Lib.hid (by rw [HW.out, World.drewN_drewN])⟩
      case measure => simp [intOf]; omega
    · have hltz : ¬ (k : Int) < (n : Int) := by omega
      go_wp2
      go_ret
      exact ⟨rfl, m, HW.out⟩
/-- The least and the greatest of sorted numbers, as Span finds them. -/
theorem span_lo_le (d : Array Int) (n : Nat) : ∀ i, i < n → Ser.lo d n ≤ Ser.ahead d[i]! d[0]! := by
  induction n with
  | zero => intro i h; omega
  | succ n ih =>
    intro i hi
    simp only [Ser.lo]
    by_cases e : i = n
    · subst e; omega
    · have := ih i (by omega); omega
theorem span_lo_mem (d : Array Int) (n : Nat) : Ser.lo d n = 0 ∨ ∃ i, i < n ∧ Ser.lo d n = Ser.ahead d[i]! d[0]! := by
  induction n with
  | zero => exact .inl rfl
  | succ n ih =>
    simp only [Ser.lo]
    by_cases e : Ser.lo d n ≤ Ser.ahead d[n]! d[0]!
    · rw [Int.min_eq_left e]
      rcases ih with h | ⟨i, hi, h⟩
      · exact .inl h
      · exact .inr ⟨i, by omega, h⟩
    · rw [Int.min_eq_right (by omega)]; exact .inr ⟨n, by omega, rfl⟩
theorem span_hi_ge (d : Array Int) (n : Nat) : ∀ i, i < n → Ser.ahead d[i]! d[0]! ≤ Ser.hi d n := by
  induction n with
  | zero => intro i h; omega
  | succ n ih =>
    intro i hi
    simp only [Ser.hi]
    by_cases e : i = n
    · subst e; omega
    · have := ih i (by omega); omega
theorem span_hi_mem (d : Array Int) (n : Nat) : Ser.hi d n = 0 ∨ ∃ i, i < n ∧ Ser.hi d n = Ser.ahead d[i]! d[0]! := by
  induction n with
  | zero => exact .inl rfl
  | succ n ih =>
    simp only [Ser.hi]
    by_cases e : Ser.ahead d[n]! d[0]! ≤ Ser.hi d n
    · rw [Int.max_eq_left e]
      rcases ih with h | ⟨i, hi, h⟩
      · exact .inl h
      · exact .inr ⟨i, by omega, h⟩
    · rw [Int.max_eq_right (by omega)]; exact .inr ⟨n, by omega, rfl⟩
theorem ahead_self (x : Int) : Ser.ahead x x = 0 := by unfold Ser.ahead; omega
theorem add_ahead (x f : Int) (hx : 0 ≤ x ∧ x < 65536) : Ser.add f (Ser.ahead x f) = x := by unfold Ser.add Ser.ahead; omega
/-- A sorted permutation's first and last keys are Span's. -/
theorem span_of_sorted (d : Array Int) (L : List Int) (h0 : 0 < d.size) (hP : L.Perm d.toList) (hS : KeySorted d[0]! L) (hlen : L.length = d.size) :
    Ser.lo d d.size = Ser.ahead (L.getD 0 0) d[0]! ∧ Ser.hi d d.size = Ser.ahead (L.getD (d.size - 1) 0) d[0]! := by
  have gd : ∀ i, i < L.length → L.getD i 0 ∈ L := fun i hi => by rw [List.getD_eq_getElem?_getD, List.getElem?_eq_getElem hi]; simp
  have key : ∀ x ∈ L, ∃ i, i < d.size ∧ d[i]! = x := fun x hx => by
    obtain ⟨i, hi, e⟩ := List.getElem_of_mem (hP.mem_iff.1 hx)
    refine ⟨i, by simpa using hi, ?_⟩
    rw [getElem!_pos d i (by simpa using hi)]; simpa using e
  have key2 : ∀ i, i < d.size → d[i]! ∈ L := fun i hi => hP.mem_iff.2 (by rw [getElem!_pos d i hi]; simp)
  have least : ∀ x ∈ L, Ser.ahead (L.getD 0 0) d[0]! ≤ Ser.ahead x d[0]! := fun x hx => by
    obtain ⟨i, hi, e⟩ := List.getElem_of_mem hx
    rw [List.getD_eq_getElem?_getD, List.getElem?_eq_getElem (by omega), Option.getD_some, ← e]
    by_cases e0 : i = 0
    · subst e0; exact Int.le_refl _
    · exact (List.pairwise_iff_getElem.1 hS) 0 i (by omega) hi (by omega)
  have most : ∀ x ∈ L, Ser.ahead x d[0]! ≤ Ser.ahead (L.getD (d.size - 1) 0) d[0]! := fun x hx => by
    obtain ⟨i, hi, e⟩ := List.getElem_of_mem hx
    rw [List.getD_eq_getElem?_getD, List.getElem?_eq_getElem (by omega), Option.getD_some, ← e]
    by_cases e0 : i = d.size - 1
    · subst e0; exact Int.le_refl _
    · exact (List.pairwise_iff_getElem.1 hS) i (d.size - 1) hi (by omega) (by omega)
  have z0 := key2 0 h0
  have s0 := ahead_self d[0]!
  constructor
  · have a1 : Ser.lo d d.size ≤ Ser.ahead (L.getD 0 0) d[0]! := by
      obtain ⟨i, hi, e⟩ := key _ (gd 0 (by omega))
      rw [← e]; exact span_lo_le d d.size i hi
    have a2 : Ser.ahead (L.getD 0 0) d[0]! ≤ Ser.lo d d.size := by
      rcases span_lo_mem d d.size with h | ⟨i, hi, h⟩
      · rw [h]; have := least _ z0; omega
      · rw [h]; exact least _ (key2 i hi)
    omega
  · have a1 : Ser.ahead (L.getD (d.size - 1) 0) d[0]! ≤ Ser.hi d d.size := by
      obtain ⟨i, hi, e⟩ := key _ (gd (d.size - 1) (by omega))
      rw [← e]; exact span_hi_ge d d.size i hi
    have a2 : Ser.hi d d.size ≤ Ser.ahead (L.getD (d.size - 1) 0) d[0]! := by
      rcases span_hi_mem d d.size with h | ⟨i, hi, h⟩
      · rw [h]; have := most _ z0; omega
      · rw [h]; exact most _ (key2 i hi)
    omega
/-- Two sorted permutations of 16-bit numbers are one list. -/
theorem sorted_one (f : Int) (L : List Int) (d d' : Array Int) (hd : ∀ x ∈ d.toList, 0 ≤ x ∧ x < 65536) (hL : L.Perm d.toList) (hS : KeySorted f L) (hP : PermIn 0 d.size d d') (hO : SortedIn (ltC (Ser.by f)) 0 d.size d') : d'.toList = L := by
  obtain ⟨p1, _, p3⟩ := hP
  have e1 : d'.extract 0 d.size = d' := by rw [← p1]; simp
  have e2 : d.extract 0 d.size = d := by simp
  rw [e1, e2] at p3
  have hS' : KeySorted f d'.toList := by
    refine List.pairwise_iff_getElem.2 fun i j hi hj hij => ?_
    have := hO i j (Nat.zero_le _) hij (by simpa [p1] using hj)
    rw [getElem!_pos d' j (by simpa using hj), getElem!_pos d' i (by simpa using hi)] at this
    unfold ltC Ser.by Ser.cmp at this
    simp only [decide_eq_false_iff_not] at this
    unfold KeyLe
    simp only [Array.getElem_toList]
    split at this <;> omega
  refine List.Perm.eq_of_pairwise ?_ hS' hS (p3.trans hL.symm)
  intro a b ha hb h1 h2
  have k1 := hd a (p3.mem_iff.1 ha)
  have k2 := hd b (hL.mem_iff.1 hb)
  unfold KeyLe Ser.ahead at h1 h2
  omega

theorem bang_take (zs : List Int) (n i : Nat) (hi : i < n) (hn : n ≤ zs.length) : (zs.take n).toArray[i]! = zs.getD i 0 := by
  rw [getElem!_pos _ i (by simp; omega), List.getD_eq_getElem?_getD, List.getElem?_eq_getElem (by omega), Option.getD_some]
  simp
def SpanPost (d : Array Int) (w : World) (e : Ending) (w' : World) : Prop :=
  e = .returned (.tuple #[.int .u16 (Ser.add d[0]! (Ser.lo d d.size)), .int .i64 (Ser.hi d d.size - Ser.lo d d.size)]) ∧ Below w.heap.size w w'
set_option maxHeartbeats 1000000 in
theorem refspan_any (b off len cap : Nat) (zs : List Int) (w : World) (h0 : 0 < len) (hl : len ≤ 200) (hzl : len ≤ zs.length) (hc : ∀ i, i < len → b < w.heap.size ∧ w.cell? ⟨b, off + i, none⟩ = some (.int .u16 (zs.getD i 0)) ∧ (Lit.int .u16 (zs.getD i 0)).wf = true) :
    Calls Try.prog 26 #[.slice (some ⟨b, off, none⟩) len cap] w (SpanPost (zs.take len).toArray w) := by
  have hr := refsorted_any (some ⟨b, off, none⟩) len cap zs w b off hl hzl (fun _ => rfl) hc
  have HR := Lib.hid hr; clear hr
  have hz : ((len : Int) == 0) = false := beq_eq_false_iff_ne.2 (by omega)
  have HC := Lib.hid hc; clear hc
  go_enter Try.func26, Try.ntmps26
  go_wp2_with (go_at_call 29; refine HR.out.mono ?_; rintro e w1 ⟨v, L, rfl, hO, hP, hS, hB⟩)
  obtain ⟨g, cp, rfl⟩ : ∃ g cp, v = .slice (some ⟨g, 0, none⟩) len cp := by
    rcases hO.2 with ⟨rfl, hx⟩ | ⟨g, cp, cur, rfl, _⟩
    · omega
    · exact ⟨g, cp, rfl⟩
  have hLl : L.length = len := by rw [hP.length_eq, List.length_take]; omega
  have hd0 : (zs.take len).toArray[0]! = zs.getD 0 0 := bang_take zs len 0 h0 hzl
  have hds : (zs.take len).toArray.size = len := by simp; omega
  have hsp := span_of_sorted (zs.take len).toArray L (by omega) hP (by rw [hd0]; exact hS) (by omega)
  have hmem : ∀ i, i < len → 0 ≤ L.getD i 0 ∧ L.getD i 0 < 65536 := fun i hi => by
    have hm : L.getD i 0 ∈ L := by rw [List.getD_eq_getElem?_getD, List.getElem?_eq_getElem (by omega)]; simp
    obtain ⟨j, hj, hjj⟩ := List.getElem_of_mem (hP.mem_iff.1 hm)
    rw [List.length_take] at hj
    rw [List.getElem_take] at hjj
    have := wf_u16 (HC.out j (by omega)).2.2
    rw [List.getD_eq_getElem?_getD, List.getElem?_eq_getElem (by omega), Option.getD_some, hjj] at this
    exact this
  have hcell : ∀ i, i < len → w1.cell? ⟨g, i, none⟩ = some (.int .u16 (L.getD i 0)) := fun i hi => by
    rw [hO.cellAt i (by omega), List.getElem?_map, List.getElem?_eq_getElem (by omega), List.getD_eq_getElem?_getD, List.getElem?_eq_getElem (by omega)]; rfl
  obtain ⟨lp, hlp⟩ : ∃ lp : Nat, (len : Int) - 1 = (lp : Int) := ⟨len - 1, by omega⟩
  have hlp1 : lp = len - 1 := by omega
  have c0 := hcell 0 h0
  have cl := hcell lp (by omega)
  have m0 := hmem 0 h0
  have ml := hmem lp (by omega)
  obtain ⟨hb, hcz, hwz⟩ := HC.out 0 h0
  have cz : w1.cell? ⟨b, off, none⟩ = some (.int .u16 (zs.getD 0 0)) := (hB.cell (p := ⟨b, off, none⟩) hb).trans (by simpa using hcz)
  have mz := wf_u16 hwz
  rw [hds, hd0] at hsp
  rw [← hlp1] at hsp
  have eadd := add_ahead (L.getD 0 0) (zs.getD 0 0) m0
  have b0 := Ser.ahead_bd (L.getD 0 0) (zs.getD 0 0)
  have bl := Ser.ahead_bd (L.getD lp 0) (zs.getD 0 0)
  have HSP := Lib.hid hsp; have HD0 := Lib.hid hd0; have HDS := Lib.hid hds; have EA := Lib.hid eadd; have HB := Lib.hid hB
  clear hsp hd0 hds eadd hcell hmem hcz hO hP hS hB
  generalize hy0 : L.getD 0 0 = y0 at *
  generalize hyl : L.getD lp 0 = yl at *
  generalize hf : zs.getD 0 0 = f at *
  clear hy0 hyl
  have HF := Lib.hid hf; clear hf
  have hll : (0 : Int) < (len : Int) := by omega
  have hl2 : (lp : Int) < (len : Int) := by omega
  have hlp2 := Lib.hid hlp1; clear hlp1
  obtain ⟨mz1, mz2⟩ := mz; obtain ⟨m01, m02⟩ := m0; obtain ⟨ml1, ml2⟩ := ml
  obtain ⟨b01, b02⟩ := b0; obtain ⟨bl1, bl2⟩ := bl
  go_wp2_with fail
  go_quiet ((go_at_call 10; exact Calls.quiet_of_same ((refahead_any _ _ (by omega) (by omega) (by omega) (by omega) _).mono fun _ _ ⟨a, b⟩ => ⟨a, b.symm⟩)))
  go_wp2
  go_ret2
  refine ⟨?_, ⟨HB.out.os, HB.out.tape, HB.out.output, HB.out.size, HB.out.block⟩⟩
  rw [HDS.out, HD0.out, HSP.out.1, HSP.out.2, EA.out]
  rfl
end Go.Proofs.Ythmnkccmnajfgaa

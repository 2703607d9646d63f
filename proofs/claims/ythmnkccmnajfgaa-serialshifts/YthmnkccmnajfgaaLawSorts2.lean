/-
  SerialSorts' walk, its end.
-/
import Derived.Test.YthmnkccmnajfgaaLawSorts
namespace Go.Proofs.Ythmnkccmnajfgaa
open Go.RowKit Go.Sort
set_option linter.unusedVariables false
theorem IntRow.len {k : IntKind} {w : World} {a : Option Addr} {len cap : Nat} {zs : List Int} (h : IntRow k w a len cap zs) : len ≤ zs.length ∧ (len = 0 → a = none ∨ ∃ x, a = some x) := by
  rcases h with ⟨rfl, rfl, rfl, rfl⟩ | ⟨x, rfl, hl, hm, hz, hc, hw⟩
  · exact ⟨Nat.le_refl _, fun _ => .inl rfl⟩
  · exact ⟨by omega, fun _ => .inr ⟨x, rfl⟩⟩
theorem own_form {W : World} {base e n : Nat} {v : Value} {xs : List Value} (h : W.ownsRow base e 1 v n xs) : ∃ a c, v = .slice a n c := by
  rcases h.2 with ⟨rfl, rfl⟩ | ⟨g, cp, cur, rfl, _⟩
  · exact ⟨_, _, rfl⟩
  · exact ⟨_, _, rfl⟩
set_option maxHeartbeats 1000000 in
theorem walk_SerialSorts0 (a : Option Addr) (cap : Nat) (zs : List Int) (w : World) (hr : IntRow .u16 w a 0 cap zs) :
    Calls Try.prog 5 #[.slice a 0 cap] w (TrueBelow w) := by
  obtain ⟨i0, hi, hz0, hz1, hz2⟩ := info_parts Try.infoU16
  have HI := Lib.hid hi; have HZ0 := Lib.hid hz0; have HZ1 := Lib.hid hz1; have HZ2 := Lib.hid hz2
  have HK := Lib.hid (hr.len.2 rfl)
  clear hi hz0 hz1 hz2 hr
  have hrs : ∀ W, Calls Try.prog 29 #[.slice a 0 cap] W (RefSortedPost zs 0 W) := fun W => refsorted_any a 0 cap zs W 0 0 (by omega) (by omega) (fun h => by omega) (fun i h => by omega)
  have HRS := Lib.hid hrs; clear hrs
  have hrsp : ∀ W, Calls Try.prog 26 #[.slice a 0 cap] W fun e w' => e = .returned (.tuple #[.int .u16 0, .int .i64 0]) ∧ W = w' := fun W => by
    go_enter Try.func26, Try.ntmps26
    go_wp2
    go_ret2
    exact ⟨rfl, rfl⟩
  have HRSP := Lib.hid hrsp; clear hrsp
  have e1 : ((0 : Int) == 0) = true := rfl
  go_enter Try.func5, Try.ntmps5
  go_wp2_with fail
  refine (alive_any _).mono ?_
  rintro e w1 ⟨rfl, hB⟩
  have HB := Lib.hid hB; clear hB
  go_wp2_with fail
  refine (span_none _ _ _).mono ?_
  rintro e _ ⟨rfl, rfl⟩
  go_wp2_with fail
  refine (HRSP.out _).mono ?_
  rintro e _ ⟨rfl, rfl⟩
  have hO0 : (w1.alloc (.cells #[] 22)).ownsRow w1.heap.size 22 1 (.slice (some ⟨w1.heap.size, 0, none⟩) 0 0) 0 [] := World.ownsRow_made w1 _ 0 (Nat.le_refl _) (by decide) rfl
  have HO0 := Lib.hid hO0; clear hO0
  have hs1 : w.heap.size ≤ w1.heap.size := HB.out.size
  rcases HK.out with rfl | ⟨x, rfl⟩
  · go_wp2_with fail
    have HB2 : Hid (Below w.heap.size w (w1.alloc (.cells #[] 22))) := Lib.hid (HB.out.alloc hs1 _)
    generalize w1.alloc (.cells #[] 22) = w2 at HB2 ⊢
    refine (sort_none _ _ _).mono ?_
    rintro e _ ⟨rfl, rfl⟩
    go_wp2_with fail
    refine (HRS.out _).mono ?_
    rintro e w3 ⟨v, L, rfl, hO, hP, hS, hB3⟩
    obtain ⟨a3, c3, rfl⟩ := own_form hO
    have HB3 : Hid (Below w.heap.size w w3) := Lib.hid (HB2.out.trans (hB3.mono HB2.out.size))
    clear hO hP hS hB3
    go_wp2_with fail
    refine (sameseqs_eq _ _ 0 _ _ 0 0 0 0 (fun _ => 0) _ (by omega) (Lib.hid fun h => by omega) (Lib.hid fun h => by omega) (Lib.hid fun i h => by omega) (Lib.hid fun i h => by omega)).mono ?_
    rintro e w4 ⟨rfl, m, rfl⟩
    go_wp2
    go_ret
    exact ⟨rfl, HB3.out.os, HB3.out.tape, HB3.out.output, HB3.out.size, HB3.out.block⟩
  · go_wp2_with (at_builtin; refine wpList_append_own _ rfl (.tmp 23) (.tmp 24) 32 rfl w1.heap.size 22 i0 (.int .u16 0) 1 2 Try.underlying32 HI.out HZ0.out HZ1.out HZ2.out rfl (by decide) _ _ _ rfl HO0.out x 0 cap [] rfl rfl (by intro j u h; simp at h) (by intro u hu; cases hu) (by decide) (by decide) (by simp) ?_; intro v1 w2 hown1 hgrow1 _)
    obtain ⟨a2, c2, rfl⟩ := own_form hown1
    have HB2 : Hid (Below w.heap.size w w2) := Lib.hid ((HB.out.alloc hs1 _).grown hgrow1 (by simp; omega) (fun j hj => by have := (HO0.out.lt j hj).1; omega))
    clear hown1 hgrow1
    refine (sort_none _ _ _).mono ?_
    rintro e _ ⟨rfl, rfl⟩
    go_wp2_with fail
    refine (HRS.out _).mono ?_
    rintro e w3 ⟨v, L, rfl, hO, hP, hS, hB3⟩
    obtain ⟨a3, c3, rfl⟩ := own_form hO
    have HB3 : Hid (Below w.heap.size w w3) := Lib.hid (HB2.out.trans (hB3.mono HB2.out.size))
    clear hO hP hS hB3
    go_wp2_with fail
    refine (sameseqs_eq _ _ 0 _ _ 0 0 0 0 (fun _ => 0) _ (by omega) (Lib.hid fun h => by omega) (Lib.hid fun h => by omega) (Lib.hid fun i h => by omega) (Lib.hid fun i h => by omega)).mono ?_
    rintro e w4 ⟨rfl, m, rfl⟩
    go_wp2
    go_ret
    exact ⟨rfl, HB3.out.os, HB3.out.tape, HB3.out.output, HB3.out.size, HB3.out.block⟩

/-- The law's walk where there is at least one number, and not more than a hundred. -/
theorem below_drewN {B : Nat} {w w' : World} (h : Below B w w') (m : Nat) : Below B w (w'.drewN m) := ⟨h.os, h.tape, h.output, h.size, h.block⟩
set_option maxHeartbeats 1000000 in
theorem walk_SerialSorts1 (b off len cap : Nat) (zs : List Int) (w : World) (h0 : 0 < len) (hl : len ≤ 100) (hzl : len ≤ zs.length) (hc : ∀ i, i < len → b < w.heap.size ∧ w.cell? ⟨b, off + i, none⟩ = some (.int .u16 (zs.getD i 0)) ∧ (Lit.int .u16 (zs.getD i 0)).wf = true) :
    Calls Try.prog 5 #[.slice (some ⟨b, off, none⟩) len cap] w (TrueBelow w) := by
  obtain ⟨i0, hi, hz0, hz1, hz2⟩ := info_parts Try.infoU16
  have HI := Lib.hid hi; have HZ0 := Lib.hid hz0; have HZ1 := Lib.hid hz1; have HZ2 := Lib.hid hz2
  clear hi hz0 hz1 hz2
  have hb : b < w.heap.size := (hc 0 h0).1
  have hds : (zs.take len).toArray.size = len := by simp; omega
  have hdb : ∀ i, i < len → (zs.take len).toArray[i]! = zs.getD i 0 := fun i hi => bang_take zs len i hi hzl
  have hcw : ∀ W, Below w.heap.size w W → ∀ i, i < len → b < W.heap.size ∧ W.cell? ⟨b, off + i, none⟩ = some (.int .u16 (zs.getD i 0)) ∧ (Lit.int .u16 (zs.getD i 0)).wf = true := fun W hB i hi =>
    ⟨Nat.lt_of_lt_of_le hb hB.size, (hB.cell (p := ⟨b, off + i, none⟩) hb).trans (hc i hi).2.1, (hc i hi).2.2⟩
  obtain ⟨low, hlow⟩ : ∃ low, Ser.add (zs.take len).toArray[0]! (Ser.lo (zs.take len).toArray (zs.take len).toArray.size) = low := ⟨_, rfl⟩
  obtain ⟨far, hfar⟩ : ∃ far, Ser.hi (zs.take len).toArray (zs.take len).toArray.size - Ser.lo (zs.take len).toArray (zs.take len).toArray.size = far := ⟨_, rfl⟩
  have hsp : ∀ W, Below w.heap.size w W → Calls Try.prog 25 #[.slice (some ⟨b, off, none⟩) len cap] W fun e w' => e = .returned (.tuple #[.int .u16 low, .int .i64 far]) ∧ W = w' := fun W hB => by
    have := span_any b off cap (zs.take len).toArray W (Lib.hid fun j hj => by rw [hds] at hj; rw [hdb j hj]; exact (hcw W hB j hj).2.1) (by omega) (by omega)
    rw [hlow, hfar, hds] at this
    exact this
  have hrp : ∀ W, Below w.heap.size w W → Calls Try.prog 26 #[.slice (some ⟨b, off, none⟩) len cap] W fun e w' => e = .returned (.tuple #[.int .u16 low, .int .i64 far]) ∧ Below W.heap.size W w' := fun W hB => by
    have := refspan_any b off len cap zs W h0 (by omega) hzl (hcw W hB)
    unfold SpanPost at this
    rw [hlow, hfar] at this
    exact this
  have HRP := Lib.hid hrp; clear hrp hlow hfar
  have HSP := Lib.hid hsp; have HCW := Lib.hid hcw; have HDB := Lib.hid hdb; have HDS := Lib.hid hds
  clear hsp hcw hdb hds hc
  have h1 : ¬ (100 : Int) < (len : Int) := by omega
  go_enter Try.func5, Try.ntmps5
  go_wp2_with fail
  refine (alive_any _).mono ?_
  rintro e w1 ⟨rfl, hB⟩
  have HB := Lib.hid hB; clear hB
  go_wp2_with fail
  refine (HSP.out _ HB.out).mono ?_
  rintro e _ ⟨rfl, rfl⟩
  go_wp2_with fail
  refine (HRP.out _ HB.out).mono ?_
  rintro e w2 ⟨rfl, hB2⟩
  have HB2 : Hid (Below w.heap.size w w2) := Lib.hid (HB.out.trans (hB2.mono HB.out.size)); clear hB2 HB
  have hO0 : (w2.alloc (.cells #[] 22)).ownsRow w2.heap.size 22 1 (.slice (some ⟨w2.heap.size, 0, none⟩) 0 0) 0 [] := World.ownsRow_made w2 _ 0 (Nat.le_refl _) (by decide) rfl
  have HO0 := Lib.hid hO0; clear hO0
  have hs2 : w.heap.size ≤ w2.heap.size := HB2.out.size
  have hnews : ∀ j u, ((zs.take len).map (Value.int .u16))[j]? = some u → (w2.alloc (.cells #[] 22)).cell? ((⟨b, off, none⟩ : Addr).add j) = some u := fun j u hu => by
    have hj : j < len := by
      have := (List.getElem?_eq_some_iff.1 hu).1
      simp at this; omega
    have e2 : (⟨b, off, none⟩ : Addr).add j = ⟨b, off + j, none⟩ := by unfold Addr.add; split <;> simp_all
    rw [e2, World.cell?_of_block (Below.heap_alloc _ _ _ (by show b < _; omega)), (HCW.out w2 HB2.out j hj).2.1, ← hu, List.getElem?_map, List.getElem?_take, if_pos hj, List.getD_eq_getElem?_getD, List.getElem?_eq_getElem (by omega)]
    rfl
  have HN := Lib.hid hnews; clear hnews
  have hlen : ((zs.take len).map (Value.int .u16)).length = len * 1 := by simp; omega
  have HLN := Lib.hid hlen; clear hlen
  go_wp2_with (at_builtin; refine wpList_append_own _ rfl (.tmp 23) (.tmp 24) 32 rfl w2.heap.size 22 i0 (.int .u16 0) 1 2 Try.underlying32 HI.out HZ0.out HZ1.out HZ2.out rfl (by decide) _ _ _ rfl HO0.out ⟨b, off, none⟩ len cap ((zs.take len).map (Value.int .u16)) rfl HLN.out HN.out (by intro u hu; obtain ⟨_, _, rfl⟩ := List.mem_map.1 hu; rfl) (by unfold maxLen; omega) (by omega) (by simp) ?_; intro v1 w3 hown1 hgrow1 _)
  rw [Nat.zero_add, List.nil_append] at hown1
  obtain ⟨g, cp, rfl⟩ : ∃ g cp, v1 = .slice (some ⟨g, 0, none⟩) len cp := by
    rcases hown1.2 with ⟨rfl, hx⟩ | ⟨g, cp, cur, rfl, _⟩
    · omega
    · exact ⟨g, cp, rfl⟩
  have hgb := hown1.lt g (by simp [Value.ownBlock])
  have HB3 : Hid (Below w.heap.size w w3) := Lib.hid ((HB2.out.alloc hs2 _).grown hgrow1 (by simp; omega) (fun j hj => by have := (HO0.out.lt j hj).1; omega))
  have hcell3 : ∀ j, j < (zs.take len).toArray.size → w3.cell? ⟨g, 0 + j, none⟩ = some (.int .u16 (zs.take len).toArray[j]!) := fun j hj => by
    rw [HDS.out] at hj
    rw [Nat.zero_add, hown1.cellAt j (by omega), HDB.out j hj, List.getElem?_map, List.getElem?_take, if_pos hj, List.getD_eq_getElem?_getD, List.getElem?_eq_getElem (by omega)]
    rfl
  have hso := sort_any g 0 cp (zs.take len).toArray w3 hcell3 (fun j _ => by rw [Nat.zero_add]; exact hown1.frozenAt j) hgb.2 (by rw [HDS.out]; exact h0) (by rw [HDS.out]; omega)
  rw [HDS.out] at hso
  have HSO := Lib.hid hso
  clear hso hcell3 hown1 hgrow1 HO0 HN
  go_wp2_with fail
  refine HSO.out.mono ?_
  rintro e w4 ⟨rfl, d', hP, hO, hG⟩
  have HB4 : Hid (Below w.heap.size w w4) := Lib.hid (HB3.out.grown hG.others HB3.out.size (fun j hj => by injection hj with hj; omega))
  have hz4 : g < w4.heap.size := Nat.lt_of_lt_of_le hgb.2 hG.others.size
  have HP := Lib.hid hP; have HO := Lib.hid hO; have HG := Lib.hid hG.cell
  clear hP hO hG HSO
  have e1 : (low == low) = true := by simp
  have e2 : (far == far) = true := by simp
  go_wp2_with fail
  refine (refsorted_any (some ⟨b, off, none⟩) len cap zs w4 b off (by omega) hzl (fun _ => rfl) (HCW.out _ HB4.out)).mono ?_
  rintro e w5 ⟨v5, L, rfl, hO5, hP5, hS5, hB5⟩
  obtain ⟨g5, c5, rfl⟩ : ∃ g5 c5, v5 = .slice (some ⟨g5, 0, none⟩) len c5 := by
    rcases hO5.2 with ⟨rfl, hx⟩ | ⟨g5, c5, cur, rfl, _⟩
    · omega
    · exact ⟨g5, c5, rfl⟩
  have HB5 : Hid (Below w.heap.size w w5) := Lib.hid (HB4.out.trans (hB5.mono HB4.out.size))
  have hone := sorted_one (zs.getD 0 0) L (zs.take len).toArray d' (fun x hx => by
      obtain ⟨j, hj, e⟩ := List.getElem_of_mem hx
      simp only [List.length_take] at hj
      have hj2 : j < len := by omega
      have := wf_u16 (HCW.out _ HB4.out j hj2).2.2
      rw [List.getD_eq_getElem?_getD, List.getElem?_eq_getElem (by omega), Option.getD_some] at this
      have e' : zs[j]'(by omega) = x := by rw [← e]; simp
      rw [e'] at this; exact this) hP5 hS5 HP.out (by rw [HDB.out 0 h0] at HO; exact HO.out)
  have hd' : d'.size = len := by rw [HP.out.1]; exact HDS.out
  have s1 : ∀ i, i < len → w5.cell? ⟨g, 0 + i, none⟩ = some (.int .u16 d'[i]!) := fun i hi => (hB5.cell (p := ⟨g, 0 + i, none⟩) hz4).trans (HG.out i (by omega))
  have s2 : ∀ i, i < len → w5.cell? ⟨g5, 0 + i, none⟩ = some (.int .u16 d'[i]!) := fun i hi => by
    rw [Nat.zero_add, hO5.cellAt i (by omega), List.getElem?_map, ← hone, getElem!_pos d' i (by omega)]
    simp [show i < d'.size by omega]
  have S1 := Lib.hid s1; have S2 := Lib.hid s2
  clear s1 s2 hone hO5 hP5 hS5 hB5 hd'
  go_wp2_with fail
  refine (sameseqs_eq _ _ len _ _ g 0 g5 0 (fun i => d'[i]!) _ (by omega) (Lib.hid fun _ => rfl) (Lib.hid fun _ => rfl) S1 S2).mono ?_
  rintro e w6 ⟨rfl, m, rfl⟩
  go_wp2
  go_ret
  exact ⟨rfl, below_drewN HB5.out m⟩
set_option maxHeartbeats 1000000 in
theorem walk_SerialSorts (a : Option Addr) (len cap : Nat) (zs : List Int) (w : World) (hr : IntRow .u16 w a len cap zs) :
    Calls Try.prog 5 #[.slice a len cap] w (TrueBelow w) := by
  by_cases h0 : len = 0
  · subst h0; exact walk_SerialSorts0 a cap zs w hr
  · obtain ⟨b, off, hlen, ha, hc⟩ := hr.open
    by_cases h100 : 100 < len
    · have h1 : (100 : Int) < (len : Int) := by omega
      clear hc ha hr
      go_enter Try.func5, Try.ntmps5
      go_wp2_with (go_at_call 9; refine (alive_any _).mono ?_; rintro e w1 ⟨rfl, hB⟩)
      go_ret
      exact ⟨rfl, hB⟩
    · have := ha (by omega)
      subst this
      exact walk_SerialSorts1 b off len cap zs w (by omega) (by omega) hr.len.1 hc
end Go.Proofs.Ythmnkccmnajfgaa

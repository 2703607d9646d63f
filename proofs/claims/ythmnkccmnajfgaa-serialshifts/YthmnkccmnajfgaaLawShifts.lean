/-
  SerialShifts' walk.
-/
import Derived.Test.YthmnkccmnajfgaaShiftsPlain
namespace Go.Proofs.Ythmnkccmnajfgaa
open Go.RowKit Go.Sort
set_option linter.unusedVariables false
/-- Two rows of the call's own, in two blocks. -/
structure Two (w0 : World) (k m : Nat) (LA LB : List Int) (va vb : Value) (w : World) : Prop where
  a : w.ownsRow w0.heap.size 22 1 va k (LA.map (Value.int .u16))
  b : w.ownsRow w0.heap.size 22 1 vb m (LB.map (Value.int .u16))
  ne : va.ownBlock ≠ vb.ownBlock
  below : Below w0.heap.size w0 w
theorem Two.stepA {w0 w w' : World} {k m : Nat} {LA LB : List Int} {va vb va' : Value} {x : Int} (h : Two w0 k m LA LB va vb w)
    (ho : w'.ownsRow w0.heap.size 22 1 va' (k + 1) (LA.map (Value.int .u16) ++ [.int .u16 x])) (hg : (w.alloc (.cells #[.int .u16 x] 22)).grownBy w' va.ownBlock)
    (hat : va'.ownBlock = va.ownBlock ∨ va'.ownBlock = some (w.alloc (.cells #[.int .u16 x] 22)).heap.size) : Two w0 (k + 1) m (LA ++ [x]) LB va' vb w' := by
  have hs := h.below.size
  refine ⟨by rw [List.map_append]; exact ho, (h.b.alloc _).kept hg (.inr (Ne.symm h.ne)), ?_, (h.below.alloc hs _).grown hg (by simp; omega) (fun j hj => (h.a.lt j hj).1)⟩
  rcases hat with e | e
  · rw [e]; exact h.ne
  · rw [e]; intro e2
    have := (h.b.lt _ e2.symm).2
    simp at this
    omega
theorem Two.stepB {w0 w w' : World} {k m : Nat} {LA LB : List Int} {va vb vb' : Value} {x : Int} (h : Two w0 k m LA LB va vb w)
    (ho : w'.ownsRow w0.heap.size 22 1 vb' (m + 1) (LB.map (Value.int .u16) ++ [.int .u16 x])) (hg : (w.alloc (.cells #[.int .u16 x] 22)).grownBy w' vb.ownBlock)
    (hat : vb'.ownBlock = vb.ownBlock ∨ vb'.ownBlock = some (w.alloc (.cells #[.int .u16 x] 22)).heap.size) : Two w0 k (m + 1) LA (LB ++ [x]) va vb' w' := by
  have hs := h.below.size
  refine ⟨(h.a.alloc _).kept hg (.inr h.ne), by rw [List.map_append]; exact ho, ?_, (h.below.alloc hs _).grown hg (by simp; omega) (fun j hj => (h.b.lt j hj).1)⟩
  rcases hat with e | e
  · rw [e]; exact h.ne
  · rw [e]; intro e2
    have := (h.a.lt _ e2).2
    simp at this
    omega
theorem Two.start (w0 w : World) (h : Below w0.heap.size w0 w) : Two w0 0 0 [] [] (.slice (some ⟨w.heap.size, 0, none⟩) 0 0) (.slice (some ⟨w.heap.size + 1, 0, none⟩) 0 0) ((w.alloc (.cells #[] 22)).alloc (.cells #[] 22)) := by
  have hs := h.size
  refine ⟨(World.ownsRow_made w _ 0 hs (by decide) rfl).alloc _, ?_, by simp [Value.ownBlock], (h.alloc hs _).alloc (by simp; omega) _⟩
  have := World.ownsRow_made (base := w0.heap.size) (e := 22) (size := 1) (w.alloc (.cells #[] 22)) #[] 0 (by simp; omega) (by decide) rfl
  simpa using this
set_option maxHeartbeats 2000000 in
theorem walk_SerialShifts1 (f by' : Int) (b off len cap : Nat) (zs : List Int) (w : World) (hf : 0 ≤ f ∧ f < 65536) (h0 : 0 < len) (hl : len ≤ 60) (hzl : len ≤ zs.length) (hc : ∀ i, i < len → b < w.heap.size ∧ w.cell? ⟨b, off + i, none⟩ = some (.int .u16 (zs.getD i 0)) ∧ (Lit.int .u16 (zs.getD i 0)).wf = true) :
    Calls Try.prog 8 #[.int .u16 f, .slice (some ⟨b, off, none⟩) len cap, .int .i64 by'] w (TrueBelow w) := by
  obtain ⟨i0, hi, hz0, hz1, hz2⟩ := info_parts Try.infoU16
  have HI := Lib.hid hi; have HZ0 := Lib.hid hz0; have HZ1 := Lib.hid hz1; have HZ2 := Lib.hid hz2
  clear hi hz0 hz1 hz2
  have hb : b < w.heap.size := (hc 0 h0).1
  have HC := Lib.hid hc; clear hc
  obtain ⟨B, hB⟩ : ∃ B, bits .and .i64 by' 65535 = B := ⟨_, rfl⟩
  have h1 : ¬ (60 : Int) < (len : Int) := by omega
  have h2 : ((len : Int) == 0) = false := beq_eq_false_iff_ne.2 (by omega)
  go_enter Try.func8, Try.ntmps8
  go_wp2_with fail
  refine (alive_any _).mono ?_
  rintro e w1 ⟨rfl, hB1⟩
  have HT0 := Lib.hid (Two.start w w1 hB1); clear hB1
  go_wp2
  go_loopw [7, 8, 33] (fun va vb i wr => ∃ k : Nat, k ≤ len ∧ i = .int .i64 k ∧ Hid (Two w k k (Sh.as f zs k) (Sh.bs f B zs k) va vb wr)) (fun _ _ i _ => len - (intOf i).toNat)
  case atStart => exact ⟨0, Nat.zero_le _, rfl, HT0⟩
  case round =>
    clear HT0
    obtain ⟨k, hk, rfl, HT⟩ := hrel
    by_cases hlt : k < len
    · have hltz : (k : Int) < (len : Int) := by omega
      obtain ⟨_, hck, hwf⟩ := HC.out k hlt
      have ck : wr.cell? ⟨b, off + k, none⟩ = some (.int .u16 (zs.getD k 0)) := (HT.out.below.cell (p := ⟨b, off + k, none⟩) hb).trans hck
      have hwf := wf_u16 hwf
      have ea : Sh.as f zs (k + 1) = Sh.as f zs k ++ [Ser.add f (zs.getD k 0 % 16000)] := rfl
      have eb : Sh.bs f B zs (k + 1) = Sh.bs f B zs k ++ [Ser.add (Ser.add f (zs.getD k 0 % 16000)) B] := rfl
      generalize zs.getD k 0 = z at *
      have EA := Lib.hid ea; have EB := Lib.hid eb; clear ea eb hck
      obtain ⟨hz1, hz2⟩ := hwf
      have hbs : w.heap.size ≤ wr.heap.size := HT.out.below.size
      go_wp2_with (first
        | (go_at_call 16; refine (add_any _ _ _).mono ?_; rintro e w' ⟨rfl, rfl⟩)
        | (at_builtin; refine wpList_append_own_at _ rfl (.tmp 42) (.tmp 44) 32 rfl w.heap.size 22 i0 (.int .u16 0) 1 2 Try.underlying32 HI.out HZ0.out HZ1.out HZ2.out rfl (by decide) _ _ _ rfl (HT.out.a.alloc _) ⟨wr.heap.size, 0, none⟩ 1 1 [.int .u16 (Ser.add f (z % 16000))] rfl rfl (cell_one_new _ _ _) (by intro u hu; simp at hu; subst hu; rfl) (by unfold maxLen; omega) (by omega) (by simp; omega) ?_; intro va' wa hown hgrow _ hat; have HTA := Lib.hid (HT.out.stepA hown hgrow hat); clear hown hgrow hat; have hba : w.heap.size ≤ wa.heap.size := HTA.out.below.size)
        | (at_builtin; refine wpList_append_own_at _ rfl (.tmp 46) (.tmp 50) 32 rfl w.heap.size 22 i0 (.int .u16 0) 1 2 Try.underlying32 HI.out HZ0.out HZ1.out HZ2.out rfl (by decide) _ _ _ rfl (HTA.out.b.alloc _) ⟨wa.heap.size, 0, none⟩ 1 1 [.int .u16 (Ser.add (Ser.add f (z % 16000)) B)] rfl rfl (cell_one_new _ _ _) (by intro u hu; simp at hu; subst hu; rfl) (by unfold maxLen; omega) (by omega) (by simp; omega) ?_; intro vb' wb hown hgrow _ hat; have HTB := Lib.hid (HTA.out.stepB hown hgrow hat); clear hown hgrow hat))
      go_roundw
      case rel => exact ⟨k + 1, by omega, by go_num, by rw [EA.out, EB.out]; exact HTB⟩
      case measure => simp [intOf]; omega
    · obtain rfl : k = len := by omega
      obtain ⟨ga, ca, ea⟩ : ∃ g c, u7 = .slice (some ⟨g, 0, none⟩) k c := by
        rcases HT.out.a.2 with ⟨rfl, hx⟩ | ⟨g, cp, cur, rfl, _⟩
        · omega
        · exact ⟨g, cp, rfl⟩
      subst ea
      obtain ⟨gb, cb, eb⟩ : ∃ g c, u8 = .slice (some ⟨g, 0, none⟩) k c := by
        rcases HT.out.b.2 with ⟨rfl, hx⟩ | ⟨g, cp, cur, rfl, _⟩
        · omega
        · exact ⟨g, cp, rfl⟩
      subst eb
      have hne : (some ga : Option Nat) ≠ some gb := by have := HT.out.ne; simpa [Value.ownBlock] using this
      have la := Sh.len f zs k
      have lb : (Sh.bs f B zs k).length = k := by rw [Sh.bs_map, List.length_map, la]
      have zA := HT.out.a.lt ga (by simp [Value.ownBlock])
      have zB := HT.out.b.lt gb (by simp [Value.ownBlock])
      have sa : (Sh.as f zs k).toArray.size = k := by rw [List.size_toArray]; exact la
      have sb : (Sh.bs f B zs k).toArray.size = k := by rw [List.size_toArray]; exact lb
      have cA : ∀ j, j < (Sh.as f zs k).toArray.size → wr.cell? ⟨ga, 0 + j, none⟩ = some (.int .u16 (Sh.as f zs k).toArray[j]!) := fun j hj => by
        rw [sa] at hj
        rw [Nat.zero_add, HT.out.a.cellAt j (by omega), List.getElem?_map, List.getElem?_eq_getElem (by omega), getElem!_pos _ j (by omega)]; simp
      have cB : ∀ j, j < (Sh.bs f B zs k).toArray.size → wr.cell? ⟨gb, 0 + j, none⟩ = some (.int .u16 (Sh.bs f B zs k).toArray[j]!) := fun j hj => by
        rw [sb] at hj
        rw [Nat.zero_add, HT.out.b.cellAt j (by omega), List.getElem?_map, List.getElem?_eq_getElem (by omega), getElem!_pos _ j (by omega)]; simp
      have fA : ∀ j, wr.frozen? ⟨ga, 0 + j, none⟩ = false := fun j => by rw [Nat.zero_add]; exact HT.out.a.frozenAt j
      have fB : ∀ j, wr.frozen? ⟨gb, 0 + j, none⟩ = false := fun j => by rw [Nat.zero_add]; exact HT.out.b.frozenAt j
      have pl := fun dA dB => shifts_plain f B zs k h0 dA dB
      have spA := span_any ga 0 ca (Sh.as f zs k).toArray wr (Lib.hid cA) (by omega) (by omega)
      have spB := span_any gb 0 cb (Sh.bs f B zs k).toArray wr (Lib.hid cB) (by omega) (by omega)
      have soA := sort_any ga 0 ca (Sh.as f zs k).toArray wr cA (fun j _ => fA j) zA.2 (by omega) (by omega)
      have soB := fun W (h : wr.grownBy W (some ga)) => sort_any gb 0 cb (Sh.bs f B zs k).toArray W (fun j hj => h.cell (cB j hj) (Ne.symm hne)) (fun j _ => (World.frozen?_of_block (h.block gb zB.2 (Ne.symm hne))).trans (fB j)) (Nat.lt_of_lt_of_le zB.2 h.size) (by omega) (by omega)
      rw [sa] at spA soA
      rw [sb] at spB
      have soB2 : ∀ W, wr.grownBy W (some ga) → Calls Try.prog 27 #[.slice (some ⟨gb, 0, none⟩) k cb] W (SortedPost gb 0 (Sh.bs f B zs k).toArray[0]! (Sh.bs f B zs k).toArray W) := fun W h => by have := soB W h; rw [sb] at this; exact this
      obtain ⟨low, hlow⟩ : ∃ x, Ser.add (Sh.as f zs k).toArray[0]! (Ser.lo (Sh.as f zs k).toArray k) = x := ⟨_, rfl⟩
      obtain ⟨n1, hn1⟩ : ∃ x, Ser.hi (Sh.as f zs k).toArray k - Ser.lo (Sh.as f zs k).toArray k = x := ⟨_, rfl⟩
      obtain ⟨far, hfar⟩ : ∃ x, Ser.add (Sh.bs f B zs k).toArray[0]! (Ser.lo (Sh.bs f B zs k).toArray k) = x := ⟨_, rfl⟩
      obtain ⟨m1, hm1⟩ : ∃ x, Ser.hi (Sh.bs f B zs k).toArray k - Ser.lo (Sh.bs f B zs k).toArray k = x := ⟨_, rfl⟩
      rw [hlow, hn1] at spA
      rw [hfar, hm1] at spB
      have SPA := Lib.hid spA; have SPB := Lib.hid spB; have SOA := Lib.hid soA; have SOB := Lib.hid soB2; have PL := Lib.hid pl; have HNE := Lib.hid hne
      have HLOW := Lib.hid hlow; have HN1 := Lib.hid hn1; have HFAR := Lib.hid hfar; have HM1 := Lib.hid hm1
      have HBel : Hid (Below w.heap.size w wr) := Lib.hid HT.out.below
      have SA := Lib.hid sa; have SB := Lib.hid sb
      clear spA spB soA soB soB2 pl hne hlow hn1 hfar hm1 cA cB fA fB la lb sa sb HT
      go_wp2_with fail
      refine SPA.out.mono ?_
      rintro e _ ⟨rfl, rfl⟩
      go_wp2_with fail
      refine SPB.out.mono ?_
      rintro e _ ⟨rfl, rfl⟩
      go_wp2_with fail
      refine SOA.out.mono ?_
      rintro e w3 ⟨rfl, dA, hPA, hOA, hGA⟩
      have HPA := Lib.hid hPA; have HOA := Lib.hid hOA; have HGA := Lib.hid hGA; clear hPA hOA hGA
      go_wp2_with fail
      refine (SOB.out _ HGA.out.others).mono ?_
      rintro e w4 ⟨rfl, dB, hPB, hOB, hGB⟩
      rw [SA.out] at HPA HOA
      rw [SB.out] at hPB hOB
      obtain ⟨nA, nB, q1, q2, q3, q4, q5, q6, q7⟩ := PL.out dA dB HPA.out HOA.out hPB hOB
      have hB4 : Below w.heap.size w w4 := (HBel.out.grown HGA.out.others HBel.out.size (fun j h => by injection h with h; omega)).grown hGB.others (Nat.le_trans HBel.out.size HGA.out.others.size) (fun j h => by injection h with h; omega)
      have c3A : ∀ j, j < k → w4.cell? ⟨ga, j, none⟩ = some (.int .u16 dA[j]!) := fun j hj => by
        have := hGB.others.cell (HGA.out.cell j (by omega)) HNE.out
        rwa [Nat.zero_add] at this
      have c3B : ∀ j, j < k → w4.cell? ⟨gb, j, none⟩ = some (.int .u16 dB[j]!) := fun j hj => by
        have := hGB.cell j (by omega)
        rwa [Nat.zero_add] at this
      have e1 : m1 = n1 := by rw [← HM1.out, ← HN1.out, q3, q4]
      have e2 : far = Ser.add low B := by rw [← HFAR.out, ← HLOW.out, q3, q5]
      have e3 : dA[0]! = low := by rw [q6, HLOW.out]
      have e4 : Ser.ahead dA[k - 1]! low = n1 := by rw [← HLOW.out, q7, HN1.out]
      have Q1 := Lib.hid q1; have Q2 := Lib.hid q2; have HB4 := Lib.hid hB4; have C3A := Lib.hid c3A; have C3B := Lib.hid c3B
      have E2 := Lib.hid e2; have E3 := Lib.hid e3; have E4 := Lib.hid e4
      clear q1 q2 q3 q4 q5 q6 q7 hB4 c3A c3B e2 e3 e4 hPB hOB hGB HPA HOA HGA SPA SPB SOA SOB PL HLOW HN1 HFAR HM1 HBel
      subst e1
      go_wp2
      go_loopw [69] (fun i wr => ∃ (j n0 : Nat), j ≤ k ∧ i = .int .i64 j ∧ Hid (wr = w4.drewN n0)) (fun i _ => k - (intOf i).toNat)
      case atStart => exact ⟨0, 0, Nat.zero_le _, rfl, Lib.hid rfl⟩
      case round =>
        obtain ⟨j, n0, hj, rfl, HW⟩ := hrel
        by_cases hjk : j < k
        · have hjkz : (j : Int) < (k : Int) := by omega
          have xA : wr.cell? ⟨ga, j, none⟩ = some (.int .u16 dA[j]!) := by rw [HW.out]; exact C3A.out j hjk
          have xB : wr.cell? ⟨gb, j, none⟩ = some (.int .u16 dB[j]!) := by rw [HW.out]; exact C3B.out j hjk
          have xe := Q1.out j hjk
          by_cases hj0 : 0 < j
          · obtain ⟨jp, rfl⟩ : ∃ jp, j = jp + 1 := ⟨j - 1, by omega⟩
            have xP : wr.cell? ⟨ga, jp, none⟩ = some (.int .u16 dA[jp]!) := by rw [HW.out]; exact C3A.out jp (by omega)
            have xn := Q2.out (jp + 1) hj0 hjk
            rw [Nat.add_sub_cancel] at xn
            generalize dA[jp + 1]! = a1 at *
            generalize dB[jp + 1]! = b1 at *
            generalize dA[jp]! = a0 at *
            have ne1 : (b1 != b1) = false := by simp
            have p0 : (0 : Int) ≤ (jp : Int) + 1 := by omega
            have p1 : (0 : Int) < (jp : Int) + 1 := by omega
            have pd : decide ((jp : Int) + 1 > 0) = true := decide_eq_true (by omega)
            have p2 : (jp : Int) < (k : Int) := by omega
            have p3 : (jp : Int) + 1 < (k : Int) := by omega
            have hwp : IntKind.i64.wrap (jp : Int) = (jp : Int) := by rw [IntKind.wrap_i64]; omega
            have e0 : ((jp : Int) + 1).toNat = jp + 1 := by omega
            go_wp2_with fail
            go_quiet (first | (go_at_call 16; exact Calls.quiet_of_same ((add_any _ _ _).mono fun _ _ ⟨a, b⟩ => ⟨a, b.symm⟩)) | (go_at_call 14; exact Calls.quiet_of_same ((newer_any _ _ _).mono fun _ _ ⟨a, b⟩ => ⟨a, b.symm⟩)))
            go_wp2
            go_roundw
            case rel => exact ⟨jp + 1 + 1, n0 + nq, by omega, by go_num, Lib.hid (by rw [HW.out, World.drewN_drewN])⟩
            case measure => simp [intOf]; omega
          · generalize dA[j]! = a1 at *
            generalize dB[j]! = b1 at *
            have ne1 : (b1 != b1) = false := by simp
            have p1 : ¬ (0 : Int) < (j : Int) := by omega
            have pd : decide ((j : Int) > 0) = false := decide_eq_false (by omega)
            go_wp2_with fail
            go_quiet (first | (go_at_call 16; exact Calls.quiet_of_same ((add_any _ _ _).mono fun _ _ ⟨a, b⟩ => ⟨a, b.symm⟩)) | (go_at_call 14; exact Calls.quiet_of_same ((newer_any _ _ _).mono fun _ _ ⟨a, b⟩ => ⟨a, b.symm⟩)))
            go_wp2
            go_roundw
            case rel => exact ⟨j + 1, n0 + nq, by omega, by go_num, Lib.hid (by rw [HW.out, World.drewN_drewN])⟩
            case measure => simp [intOf]; omega
        · have hjkz : ¬ (j : Int) < (k : Int) := by omega
          have x0 : wr.cell? ⟨ga, 0, none⟩ = some (.int .u16 dA[0]!) := by rw [HW.out]; exact C3A.out 0 h0
          obtain ⟨lp, hlp⟩ : ∃ lp : Nat, (k : Int) - 1 = (lp : Int) := ⟨k - 1, by omega⟩
          have hlp1 : lp = k - 1 := by omega
          have xl : wr.cell? ⟨ga, lp, none⟩ = some (.int .u16 dA[k - 1]!) := by rw [HW.out, hlp1]; exact C3A.out (k - 1) (by omega)
          rw [E3.out] at x0
          have e4 := E4.out
          generalize dA[k - 1]! = al at *
          have e2 := E2.out
          subst e2
          have p1 : (lp : Int) < (k : Int) := by omega
          have p2 : (0 : Int) < (k : Int) := by omega
          have HLP := Lib.hid hlp1; clear hlp1
          go_wp2_with (first
            | (go_at_call 16; refine (add_any _ _ _).mono ?_; rintro e w' ⟨rfl, rfl⟩)
            | (go_at_call 11; refine (ahead_any _ _ _).mono ?_; rintro e w' ⟨rfl, rfl⟩))
          go_ret
          refine ⟨rfl, ?_⟩
          rw [HW.out]; exact below_drewN HB4.out n0
set_option maxHeartbeats 1000000 in
theorem walk_SerialShifts (f : Int) (a : Option Addr) (len cap : Nat) (zs : List Int) (by' : Int) (w : World) (hf : 0 ≤ f ∧ f < 65536) (hr : IntRow .u16 w a len cap zs) :
    Calls Try.prog 8 #[.int .u16 f, .slice a len cap, .int .i64 by'] w (TrueBelow w) := by
  by_cases h60 : 60 < len
  · have h1 : (60 : Int) < (len : Int) := by omega
    clear hr
    go_enter Try.func8, Try.ntmps8
    go_wp2_with (go_at_call 9; refine (alive_any _).mono ?_; rintro e w1 ⟨rfl, hB⟩)
    go_ret
    exact ⟨rfl, hB⟩
  · by_cases h0 : len = 0
    · subst h0
      clear hr h60
      go_enter Try.func8, Try.ntmps8
      go_wp2_with (go_at_call 9; refine (alive_any _).mono ?_; rintro e w1 ⟨rfl, hB⟩)
      go_ret
      exact ⟨rfl, hB⟩
    · obtain ⟨b, off, hlen, ha, hc⟩ := hr.open
      have := ha (by omega)
      subst this
      exact walk_SerialShifts1 f by' b off len cap zs w hf (by omega) (by omega) hr.len.1 hc
end Go.Proofs.Ythmnkccmnajfgaa

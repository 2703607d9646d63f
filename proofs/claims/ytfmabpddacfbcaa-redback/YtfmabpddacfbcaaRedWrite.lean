
/-
  red.encode, Write.
-/
import Derived.Test.YtfmabpddacfbcaaRedValid
import Derived.Test.YtfmabpddacfbcaaRtpWrite
namespace Go.Proofs.Ytfmabpddacfbcaa
open Go.RowKit Go.Shelf
set_option linter.unusedVariables false
theorem or_shift10 (x : Int) (n : Nat) (hx : 0 ≤ x ∧ x ≤ 16383) (hn : n ≤ 1023) : bits .or .i64 (x * 1024) n = x * 1024 + n := by
  have e1 : (BitVec.ofInt 64 (x * 1024)).toNat = 2 ^ 10 * x.toNat := by rw [BitVec.toNat_ofInt]; omega
  have e2 : (BitVec.ofInt 64 (n : Int)).toNat = n := by rw [BitVec.toNat_ofInt]; omega
  have key : (BitVec.ofInt 64 (x * 1024) ||| BitVec.ofInt 64 (n : Int)).toNat = 2 ^ 10 * x.toNat + n := by
    rw [BitVec.toNat_or, e1, e2, ← Nat.two_pow_add_eq_or_of_lt (by omega)]
  show IntKind.i64.wrap ((BitVec.ofInt 64 (x * 1024) ||| BitVec.ofInt 64 (n : Int)).toNat : Nat) = _
  rw [key, IntKind.wrap_i64]; omega
theorem or_more (p : Int) (h : 0 ≤ p ∧ p ≤ 127) : bits .or .i64 128 p = 128 + p := by
  have : ∀ (n : Fin 128), bits .or .i64 128 ((n : Nat) : Int) = 128 + ((n : Nat) : Int) := by decide
  obtain ⟨n, rfl⟩ := Int.eq_ofNat_of_zero_le h.1
  exact this ⟨n, by omega⟩
set_option maxHeartbeats 1000000 in
set_option maxRecDepth 100000 in
theorem rencode_any (a : Option Addr) (k c : Nat) (pt of : Nat → Int) (A : Nat → Option Addr) (C : Nat → Nat) (ds : Nat → List Int) (la : Option Addr) (lc : Nat) (w : World) (h : BkAt w a k pt of A C ds) (hb : BAt w la (ds k).length (ds k)) (hv : RVld pt of ds k) :
    Calls Try.prog 19 #[.slice a k c, .agg #[.int .i64 (pt k), .int .i64 (of k), .slice la (ds k).length lc]] w (NewB (renc pt of ds k).length (renc pt of ds k) w) := by
  obtain ⟨w0, hw0⟩ : ∃ w0, w.alloc (.cells #[.int .i64 (pt k), .int .i64 (of k), .slice la (ds k).length lc] 50) = w0 := ⟨_, rfl⟩
  have hB0 : Below w.heap.size w w0 := by rw [← hw0]; exact (Below.refl _ w).alloc (Nat.le_refl _) _
  have hz0 : w0.heap.size = w.heap.size + 1 := by rw [← hw0]; simp
  have hr0 : w0.heap[w.heap.size]? = some (.cells #[.int .i64 (pt k), .int .i64 (of k), .slice la (ds k).length lc] 50 (0, 0)) := by rw [← hw0]; exact lit_new rfl
  have HH := Lib.hid (h.below hB0); have HV := Lib.hid hv; have HBL := Lib.hid (hb.below hB0); have HB0 := Lib.hid hB0; have HR0 := Lib.hid hr0; have HW0 := Lib.hid hw0
  have HWS : Hid (WriteSt w0 w0.heap.size [] 0 (w0.alloc (.cells #[.slice none 0 0] 64))) := Lib.hid ⟨none, 0, ⟨heap_alloc_new w0 _, ⟨World.ownsRow_nil _ _ _ _, Str.ok_nil⟩, fun x hx => by cases hx⟩, (Below.refl _ w0).alloc (Nat.le_refl _) _⟩
  have hz : Hid (w0.heap.size = w.heap.size + 1) := Lib.hid hz0
  rw [hz0] at HWS
  clear h hb hB0 hr0 hw0 hz0 hv
  have hk8 := HV.out.few
  go_enter Try.func19, Try.ntmps19
  go_upto_region 3 with (fail)
  rw [HW0.out]
  go_loopw [13] (fun iv wr => ∃ (i n' : Nat), i ≤ k ∧ n' = 4 * i ∧ iv = .int .i64 i ∧ Hid (WriteSt w0 (w.heap.size + 1) (hds pt of ds i) n' wr)) (fun iv _ => k - (intOf iv).toNat)
  case atStart => exact ⟨0, 0, Nat.zero_le _, rfl, rfl, HWS⟩
  case round =>
    obtain ⟨i, n', hi, hn', rfl, HQ⟩ := hrel
    clear HWS
    by_cases hlt : i < k
    · have hiz : (i : Int) < (k : Int) := by omega
      obtain ⟨b, o, hr⟩ := HH.out
      obtain ⟨rfl, hbl, g0, g1, g2, _⟩ := hr i hlt
      have g0 : wr.cell? ⟨b, o + i * 3, none⟩ = some (.int .i64 (pt i)) := (HQ.out.low.cell (p := ⟨b, o + i * 3, none⟩) hbl).trans g0
      have g1 : wr.cell? ⟨b, o + i * 3 + 1, none⟩ = some (.int .i64 (of i)) := (HQ.out.low.cell (p := ⟨b, o + i * 3 + 1, none⟩) hbl).trans g1
      have g2 : wr.cell? ⟨b, o + i * 3 + 2, none⟩ = some (.slice (A i) (ds i).length (C i)) := (HQ.out.low.cell (p := ⟨b, o + i * 3 + 2, none⟩) hbl).trans g2
      have hp := HV.out.pts i hi; have ho := HV.out.ofs i hi; have hl := HV.out.len i hlt
      have HA : Hid (∀ o', WriteSt w0 (w.heap.size + 1) (hds pt of ds i) n' (wr.alloc o')) := Lib.hid fun o' => by
        obtain ⟨a', c', h1, h2⟩ := HQ.out
        exact ⟨a', c', h1.below ((Below.refl _ wr).alloc (Nat.le_refl _) _), h2.alloc h2.size _⟩
      have hor := or_shift10 (of i) (ds i).length ho hl
      have horm := or_more (pt i) hp
      have HX : Hid (hds pt of ds (i + 1) = hds pt of ds i ++ hB (pt i) (of i) (ds i).length) := Lib.hid rfl
      clear hr HQ
      unfold hB at HX
      obtain ⟨L1, hL1⟩ : ∃ L, hds pt of ds (i + 1) = L := ⟨_, rfl⟩
      rw [hL1] at HX
      have HL1 := Lib.hid hL1; clear hL1
      generalize hds pt of ds i = L0 at HX HA
      generalize pt i = p at *
      generalize of i = q at *
      generalize (ds i).length = z at *
      obtain ⟨r, hr⟩ : ∃ r, q * 1024 + (z : Int) = r := ⟨_, rfl⟩
      rw [hr] at hor HX
      have hrb : 0 ≤ r ∧ r < 16777216 := by omega
      have hw : IntKind.u16.wrap r = r % 65536 := by simp [IntKind.wrap, IntKind.bits, IntKind.signed]
      have hs0 : w0.heap.size ≤ w.heap.size + 1 := by have := hz.out; omega
      clear hr
      go_wp2_with fail
      refine (st_byte hs0 (HA.out _) (128 + p) (by omega) (by omega) (by omega)).mono ?_
      rintro e w2 ⟨rfl, hW2⟩
      have HW2 := Lib.hid hW2; clear hW2 HA
      go_wp2_with fail
      refine (st_byte hs0 HW2.out (r / 65536) (by omega) (by omega) (by omega)).mono ?_
      rintro e w3 ⟨rfl, hW3⟩
      have HW3 := Lib.hid hW3; clear hW3 HW2
      go_wp2_with fail
      refine (st_word hs0 HW3.out (r % 65536) (by omega) (by omega)).mono ?_
      rintro e w4 ⟨rfl, hW4⟩
      rw [List.append_assoc, List.append_assoc, ← HX.out] at hW4
      have HW4 := Lib.hid hW4; clear hW4 HW3
      go_wp2_with fail
      go_roundw
      case rel => exact ⟨i + 1, n' + 1 + 1 + 2, by omega, by omega, by go_num, by rw [HL1.out]; exact HW4⟩
      case measure => simp [intOf]; omega
    · obtain rfl : i = k := by omega
      have HLAST : Hid (∀ W, Below w0.heap.size w0 W → W.heap[w.heap.size]? = some (.cells #[.int .i64 (pt i), .int .i64 (of i), .slice la (ds i).length lc] 50 (0, 0))) := Lib.hid fun W hB => (hB.block _ (by have := hz.out; omega)).trans HR0.out
      have l0 : wr.cell? ⟨w.heap.size, 0, none⟩ = some (.int .i64 (pt i)) := by rw [cell_of_row wr _ 0 _ _ _ (HLAST.out wr HQ.out.low)]; rfl
      have hp := HV.out.pts i (Nat.le_refl _)
      have hs0 : w0.heap.size ≤ w.heap.size + 1 := by have := hz.out; omega
      go_wp2_with fail
      refine (st_byte hs0 HQ.out (pt i) (by omega) (by omega) (by omega)).mono ?_
      rintro e w2 ⟨rfl, hW2⟩
      have HW2 := Lib.hid hW2; clear hW2 HQ l0
      have hpb : ∀ j, j ≤ i + 1 → psum (fun i => (ds i).length) j ≤ 1500 := fun j hj => by have := HV.out.tot; have := psum_le (fun i => (ds i).length) hj; omega
      go_wp2_with fail
      go_loopw [40] (fun iv wr => ∃ (j n2 : Nat), j ≤ i ∧ n2 = n' + 1 + psum (fun i => (ds i).length) j ∧ iv = .int .i64 j ∧ Hid (WriteSt w0 (w.heap.size + 1) (hds pt of ds i ++ (Big 1 (pt i) ++ dts ds j)) n2 wr)) (fun iv _ => i - (intOf iv).toNat)
      case atStart => exact ⟨0, n' + 1, Nat.zero_le _, rfl, rfl, Lib.hid (by have := HW2.out; simpa [dts] using this)⟩
      case round =>
        obtain ⟨j, n2, hj, hn2, rfl, HQ⟩ := hrel
        clear HW2
        have hpj := hpb j (by omega)
        by_cases hlt : j < i
        · have hiz : (j : Int) < (i : Int) := by omega
          obtain ⟨b, o, hr⟩ := HH.out
          obtain ⟨rfl, hbl, g0, g1, g2, hbd, _⟩ := hr j hlt
          have g0 : wr.cell? ⟨b, o + j * 3, none⟩ = some (.int .i64 (pt j)) := (HQ.out.low.cell (p := ⟨b, o + j * 3, none⟩) hbl).trans g0
          have g1 : wr.cell? ⟨b, o + j * 3 + 1, none⟩ = some (.int .i64 (of j)) := (HQ.out.low.cell (p := ⟨b, o + j * 3 + 1, none⟩) hbl).trans g1
          have g2 : wr.cell? ⟨b, o + j * 3 + 2, none⟩ = some (.slice (A j) (ds j).length (C j)) := (HQ.out.low.cell (p := ⟨b, o + j * 3 + 2, none⟩) hbl).trans g2
          have HA : Hid (∀ o', WriteSt w0 (w.heap.size + 1) (hds pt of ds i ++ (Big 1 (pt i) ++ dts ds j)) n2 (wr.alloc o')) := Lib.hid fun o' => by
            obtain ⟨a', c', h1, h2⟩ := HQ.out
            exact ⟨a', c', h1.below ((Below.refl _ wr).alloc (Nat.le_refl _) _), h2.alloc h2.size _⟩
          have HPS : Hid (psum (fun i => (ds i).length) (j + 1) = psum (fun i => (ds i).length) j + (ds j).length) := Lib.hid rfl
          have hl := HV.out.len j hlt
          have HBD := Lib.hid hbd
          clear hr HQ hbd
          go_wp2_with fail
          refine (st_put hs0 (HA.out _) (A j) (ds j).length (C j) (ds j) HBD.out (by omega) (by omega)).mono ?_
          rintro e w3 ⟨rfl, hW3⟩
          rw [List.append_assoc, List.append_assoc] at hW3
          have HW3 := Lib.hid hW3; clear hW3 HA
          go_wp2_with fail
          go_roundw
          case rel => exact ⟨j + 1, n2 + (ds j).length, by omega, by have := HPS.out; omega, by go_num, HW3⟩
          case measure => simp [intOf]; omega
        · obtain rfl : j = i := by omega
          have l2 : wr.cell? ⟨w.heap.size, 2, none⟩ = some (.slice la (ds j).length lc) := by rw [cell_of_row wr _ 2 _ _ _ (HLAST.out wr HQ.out.low)]; rfl
          have hpj1 := hpb (j + 1) (by omega)
          have HPS : Hid (psum (fun i => (ds i).length) (j + 1) = psum (fun i => (ds i).length) j + (ds j).length) := Lib.hid rfl
          have hlj : (ds j).length ≤ 1500 := by have := HPS.out; omega
          go_wp2_with fail
          refine (st_put hs0 HQ.out la (ds j).length lc (ds j) HBL.out (by omega) (by omega)).mono ?_
          rintro e w3 ⟨rfl, hW3⟩
          have hee : hds pt of ds j ++ (Big 1 (pt j) ++ dts ds j) ++ ds j = renc pt of ds j := by simp [renc, dts]
          have hnn : n2 + (ds j).length = (renc pt of ds j).length := by rw [renc_len HV.out]; have := HPS.out; omega
          rw [hee, hnn] at hW3
          have hNb : (renc pt of ds j).length ≤ 1500 := by rw [renc_len HV.out]; exact HV.out.tot
          have HW3 := Lib.hid hW3
          have HBW := Lib.hid (show Below w.heap.size w w3 from HB0.out.trans (hW3.low.mono HB0.out.size))
          clear hW3 hee hnn HQ l2 hpj hpj1 hn2 hn'
          go_wp2_with fail
          refine (st_done HW3.out (by omega)).mono ?_
          rintro e w4 ⟨a4, c4, rfl, hO4, hB4⟩
          have HF : Hid (NewB (renc pt of ds j).length (renc pt of ds j) w (.returned (.slice a4 (renc pt of ds j).length c4)) w4) := Lib.hid ⟨a4, c4, rfl, hO4.mono HBW.out.size, HBW.out.trans (hB4.mono HBW.out.size)⟩
          clear hO4 hB4
          go_wp2_with fail
          go_ret
          exact HF.out
end Go.Proofs.Ytfmabpddacfbcaa

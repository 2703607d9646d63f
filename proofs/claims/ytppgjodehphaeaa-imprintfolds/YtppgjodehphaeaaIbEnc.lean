
/-
  imprint.encode, Packet.
-/
import Derived.Test.YtppgjodehphaeaaIbSame
import Derived.Test.YtppgjodehphaeaaRtpEnc
namespace Go.Proofs.Ytppgjodehphaeaa
open Go.RowKit Go.Shelf
set_option linter.unusedVariables false
theorem or_ver (p : Int) (h : 0 ≤ p ∧ p ≤ 127) : bits .or .i64 128 p = 128 + p := by
  have : ∀ (n : Fin 128), bits .or .i64 128 ((n : Nat) : Int) = 128 + ((n : Nat) : Int) := by decide
  obtain ⟨n, rfl⟩ := Int.eq_ofNat_of_zero_le h.1
  exact this ⟨n, by omega⟩
set_option maxHeartbeats 400000 in
set_option maxRecDepth 100000 in
theorem iencode_any (h0 h1 h2 h3 h4 h5 h6 h7 : Int) (a : Option Addr) (n c : Nat) (la : List Int) (sq ss : Int) (w : World) (ha : BAt w a n la) (hn : n ≤ 100000) (b0 : 0 ≤ h0 ∧ h0 < 256) (b1 : 0 ≤ h1 ∧ h1 < 256) (b2 : 0 ≤ h2 ∧ h2 < 256) (b3 : 0 ≤ h3 ∧ h3 < 256) (b4 : 0 ≤ h4 ∧ h4 < 256) (b5 : 0 ≤ h5 ∧ h5 < 256) (hq : 0 ≤ sq ∧ sq < 65536) (hs : 0 ≤ ss ∧ ss < 4294967296) :
    Calls Try.prog 34 #[.agg #[.int .u8 h0, .int .u8 h1, .int .u8 h2, .int .u8 h3, .int .u8 h4, .int .u8 h5, .int .u8 h6, .int .u8 h7], .slice a n c, .int .u16 sq, .int .u32 ss] w (NewB (12 + n) ([128 + h0 % 64, h1] ++ (Big 2 sq ++ ([h2, h3, h4, h5] ++ (Big 4 ss ++ la)))) w) := by
  obtain ⟨Post, hPost⟩ : ∃ Post, NewB (12 + n) ([128 + h0 % 64, h1] ++ (Big 2 sq ++ ([h2, h3, h4, h5] ++ (Big 4 ss ++ la)))) w = Post := ⟨_, rfl⟩
  rw [hPost]
  have HPOST := Lib.hid hPost; clear hPost
  obtain ⟨w1, hw1⟩ : ∃ w1, w.alloc (.cells #[.int .u8 h0, .int .u8 h1, .int .u8 h2, .int .u8 h3, .int .u8 h4, .int .u8 h5, .int .u8 h6, .int .u8 h7] 25) = w1 := ⟨_, rfl⟩
  have hB1 : Below w.heap.size w w1 := by rw [← hw1]; exact (Below.refl _ w).alloc (Nat.le_refl _) _
  have hx1 : w1.heap[w.heap.size]? = some (.cells #[.int .u8 h0, .int .u8 h1, .int .u8 h2, .int .u8 h3, .int .u8 h4, .int .u8 h5, .int .u8 h6, .int .u8 h7] 25 (0, 0)) := by rw [← hw1]; exact lit_new rfl
  have hz1 : w1.heap.size = w.heap.size + 1 := by rw [← hw1]; simp
  have hbt : BAt w1 (some ⟨w.heap.size, 2, none⟩) 4 [h2, h3, h4, h5] := ⟨rfl, by omega, w.heap.size, 2, fun i hi => by
    match i, hi with
    | 0, _ => exact ⟨rfl, (Array.getElem?_eq_some_iff.1 hx1).1, by rw [cell_of_row w1 _ _ _ _ _ hx1]; rfl, b2⟩
    | 1, _ => exact ⟨rfl, (Array.getElem?_eq_some_iff.1 hx1).1, by rw [cell_of_row w1 _ _ _ _ _ hx1]; rfl, b3⟩
    | 2, _ => exact ⟨rfl, (Array.getElem?_eq_some_iff.1 hx1).1, by rw [cell_of_row w1 _ _ _ _ _ hx1]; rfl, b4⟩
    | 3, _ => exact ⟨rfl, (Array.getElem?_eq_some_iff.1 hx1).1, by rw [cell_of_row w1 _ _ _ _ _ hx1]; rfl, b5⟩⟩
  have HBT := Lib.hid hbt; have HLA := Lib.hid (ha.below hB1)
  obtain ⟨w0, hw0⟩ : ∃ w0, w1.alloc (.cells #[.slice none 0 0] 99) = w0 := ⟨_, rfl⟩
  have HS0 : Hid (WriteSt w1 (w.heap.size + 1) [] 0 w0) := Lib.hid (by
    rw [← hw0, ← hz1]
    exact ⟨none, 0, ⟨heap_alloc_new w1 _, ⟨World.ownsRow_nil _ _ _ _, Str.ok_nil⟩, fun x hx => by cases hx⟩, (Below.refl _ w1).alloc (Nat.le_refl _) _⟩)
  have HXX : Hid (∀ W, Below w1.heap.size w1 W → W.heap[w.heap.size]? = some (.cells #[.int .u8 h0, .int .u8 h1, .int .u8 h2, .int .u8 h3, .int .u8 h4, .int .u8 h5, .int .u8 h6, .int .u8 h7] 25 (0, 0))) := Lib.hid fun W hW => (hW.block _ (by omega)).trans hx1
  have hx0 : w0.heap[w.heap.size]? = some (.cells #[.int .u8 h0, .int .u8 h1, .int .u8 h2, .int .u8 h3, .int .u8 h4, .int .u8 h5, .int .u8 h6, .int .u8 h7] 25 (0, 0)) := HXX.out w0 (by rw [← hw0]; exact (Below.refl _ w1).alloc (Nat.le_refl _) _)
  have HW1 := Lib.hid hw1; have HW0 := Lib.hid hw0; have HB1 := Lib.hid hB1; have HX0 := Lib.hid hx0
  have hss : w1.heap.size ≤ w.heap.size + 1 := by omega
  have hor := or_ver (h0 % 64) (by omega)
  clear hw1 hw0 hB1 hx1 hbt ha
  obtain ⟨v0, hv0⟩ : ∃ v, 128 + h0 % 64 = v := ⟨_, rfl⟩
  rw [hv0] at hor
  have hv0b : 0 ≤ v0 ∧ v0 < 256 := by omega
  have HV0 := Lib.hid hv0; clear hv0
  have x1 : w0.cell? ⟨w.heap.size, 1, none⟩ = some (.int .u8 h1) := by rw [cell_of_row w0 _ 1 _ _ _ hx0]; rfl
  clear hx0
  go_enter Try.func34, Try.ntmps34
  go_wp2_with fail
  rw [HW1.out, HW0.out]
  refine (st_byte hss HS0.out v0 (by omega) (by omega) (by omega)).mono ?_
  rintro e w2 ⟨rfl, h2'⟩
  have H2 := Lib.hid h2'
  have hx2 : w2.heap[w.heap.size]? = some (.cells #[.int .u8 h0, .int .u8 h1, .int .u8 h2, .int .u8 h3, .int .u8 h4, .int .u8 h5, .int .u8 h6, .int .u8 h7] 25 (0, 0)) := by obtain ⟨_, _, _, hlow⟩ := h2'; exact HXX.out w2 hlow
  have x1 : w2.cell? ⟨w.heap.size, 1, none⟩ = some (.int .u8 h1) := by rw [cell_of_row w2 _ 1 _ _ _ hx2]; rfl
  clear h2' HS0 hx2
  go_wp2_with fail
  refine (st_byte hss H2.out h1 (by omega) (by omega) (by omega)).mono ?_
  rintro e w3 ⟨rfl, h3'⟩
  have H3 := Lib.hid h3'; clear h3' H2 x1
  go_wp2_with fail
  refine (st_word hss H3.out sq hq (by omega)).mono ?_
  rintro e w4 ⟨rfl, h4'⟩
  have H4 := Lib.hid h4'; clear h4' H3
  go_wp2_with fail
  refine (st_put hss H4.out (some ⟨w.heap.size, 2, none⟩) 4 _ _ HBT.out (by omega) (by omega)).mono ?_
  rintro e w5 ⟨rfl, h5'⟩
  have H5 := Lib.hid h5'; clear h5' H4
  go_wp2_with fail
  refine (st_long hss H5.out ss hs (by omega)).mono ?_
  rintro e w6 ⟨rfl, h6'⟩
  have H6 := Lib.hid h6'; clear h6' H5
  go_wp2_with fail
  refine (st_put hss H6.out a n c la HLA.out (by omega) (by omega)).mono ?_
  rintro e w7 ⟨rfl, h7'⟩
  have H7 := Lib.hid h7'; clear h7' H6
  go_wp2_with fail
  refine (st_done H7.out (by omega)).mono ?_
  rintro e w8 ⟨a8, c8, rfl, hO8, hB8⟩
  have HF : Hid (Post (.returned (.slice a8 (0 + 1 + 1 + 2 + 4 + 4 + n) c8)) w8) := Lib.hid (by
    rw [← HPOST.out]
    obtain ⟨_, _, _, hlow⟩ := H7.out
    have hz := hlow.size
    refine ⟨a8, c8, by rw [show 0 + 1 + 1 + 2 + 4 + 4 + n = 12 + n from by omega], ?_, HB1.out.trans ((hlow.trans (hB8.mono hlow.size)).mono HB1.out.size)⟩
    have e1 : ([] ++ Big 1 v0 ++ Big 1 h1 ++ Big 2 sq ++ [h2, h3, h4, h5] ++ Big 4 ss ++ la) = ([128 + h0 % 64, h1] ++ (Big 2 sq ++ ([h2, h3, h4, h5] ++ (Big 4 ss ++ la)))) := by
      rw [HV0.out, Big1, Big1, show v0 % 256 = v0 from by omega, show h1 % 256 = h1 from by omega]; simp
    rw [← e1, show 12 + n = 0 + 1 + 1 + 2 + 4 + 4 + n from by omega]
    exact hO8.mono (by have := HB1.out.size; omega))
  clear hO8 hB8 H7
  go_wp2_with fail
  exact HF.out
end Go.Proofs.Ytppgjodehphaeaa

/-
  imprint.encode, Packet.
-/
import Derived.Test.YtedhmoihlfjbdaaIbSame
import Derived.Test.YtedhmoihlfjbdaaRtpEnc
import Derived.Deep.RegionLaw
import Derived.Deep.RegionHeld3
import Derived.Test.YtedhmoihlfjbdaaStrRef2
namespace Go.Proofs.Ytedhmoihlfjbdaa
open Go.RowKit Go.Shelf
set_option linter.unusedVariables false
theorem or_ver (p : Int) (h : 0 ≤ p ∧ p ≤ 127) : bits .or .i64 128 p = 128 + p := by
  have : ∀ (n : Fin 128), bits .or .i64 128 ((n : Nat) : Int) = 128 + ((n : Nat) : Int) := by decide
  obtain ⟨n, rfl⟩ := Int.eq_ofNat_of_zero_le h.1
  exact this ⟨n, by omega⟩
set_option maxHeartbeats 400000 in
set_option maxRecDepth 100000 in
theorem iencode_any (h0 h1 h2 h3 h4 h5 h6 h7 : Int) (a : Option Addr) (n c : Nat) (la : List Int) (sq ss : Int) (w : World) (ha : BAt w a n la) (hn : n ≤ 100000) (b0 : 0 ≤ h0 ∧ h0 < 256) (b1 : 0 ≤ h1 ∧ h1 < 256) (b2 : 0 ≤ h2 ∧ h2 < 256) (b3 : 0 ≤ h3 ∧ h3 < 256) (b4 : 0 ≤ h4 ∧ h4 < 256) (b5 : 0 ≤ h5 ∧ h5 < 256) (hq : 0 ≤ sq ∧ sq < 65536) (hs : 0 ≤ ss ∧ ss < 4294967296) :
    Calls Try.prog 116 #[.agg #[.int .u8 h0, .int .u8 h1, .int .u8 h2, .int .u8 h3, .int .u8 h4, .int .u8 h5, .int .u8 h6, .int .u8 h7], .slice a n c, .int .u16 sq, .int .u32 ss] w (NewB (12 + n) ([128 + h0 % 64, h1] ++ (Big 2 sq ++ ([h2, h3, h4, h5] ++ (Big 4 ss ++ la)))) w) := by
  obtain ⟨Post, hPost⟩ : ∃ Post, NewB (12 + n) ([128 + h0 % 64, h1] ++ (Big 2 sq ++ ([h2, h3, h4, h5] ++ (Big 4 ss ++ la)))) w = Post := ⟨_, rfl⟩
  rw [hPost]
  have HPOST := Lib.hid hPost; clear hPost
  obtain ⟨w1, hw1⟩ : ∃ w1, w.alloc (.cells #[.int .u8 h0, .int .u8 h1, .int .u8 h2, .int .u8 h3, .int .u8 h4, .int .u8 h5, .int .u8 h6, .int .u8 h7] 28) = w1 := ⟨_, rfl⟩
  have hB1 : Below w.heap.size w w1 := by rw [← hw1]; exact (Below.refl _ w).alloc (Nat.le_refl _) _
  have hx1 : w1.heap[w.heap.size]? = some (.cells #[.int .u8 h0, .int .u8 h1, .int .u8 h2, .int .u8 h3, .int .u8 h4, .int .u8 h5, .int .u8 h6, .int .u8 h7] 28 (0, 0)) := by rw [← hw1]; exact lit_new rfl
  have hz1 : w1.heap.size = w.heap.size + 1 := by rw [← hw1]; simp
  have hbt : BAt w1 (some ⟨w.heap.size, 2, none⟩) 4 [h2, h3, h4, h5] := ⟨rfl, by omega, w.heap.size, 2, fun i hi => by
    match i, hi with
    | 0, _ => exact ⟨rfl, (Array.getElem?_eq_some_iff.1 hx1).1, by rw [cell_of_row w1 _ _ _ _ _ hx1]; rfl, b2⟩
    | 1, _ => exact ⟨rfl, (Array.getElem?_eq_some_iff.1 hx1).1, by rw [cell_of_row w1 _ _ _ _ _ hx1]; rfl, b3⟩
    | 2, _ => exact ⟨rfl, (Array.getElem?_eq_some_iff.1 hx1).1, by rw [cell_of_row w1 _ _ _ _ _ hx1]; rfl, b4⟩
    | 3, _ => exact ⟨rfl, (Array.getElem?_eq_some_iff.1 hx1).1, by rw [cell_of_row w1 _ _ _ _ _ hx1]; rfl, b5⟩⟩
  have HBT := Lib.hid hbt; have HLA := Lib.hid (ha.below hB1)
  obtain ⟨w0, hw0⟩ : ∃ w0, w1.alloc (.cells #[.slice none 0 0] 177) = w0 := ⟨_, rfl⟩
  have HS0 : Hid (WriteSt w1 (w.heap.size + 1) [] 0 w0) := Lib.hid (by
    rw [← hw0, ← hz1]
    exact ⟨none, 0, ⟨heap_alloc_new w1 _, ⟨World.ownsRow_nil _ _ _ _, Str.ok_nil⟩, fun x hx => by cases hx⟩, (Below.refl _ w1).alloc (Nat.le_refl _) _⟩)
  have HXX : Hid (∀ W, Below w1.heap.size w1 W → W.heap[w.heap.size]? = some (.cells #[.int .u8 h0, .int .u8 h1, .int .u8 h2, .int .u8 h3, .int .u8 h4, .int .u8 h5, .int .u8 h6, .int .u8 h7] 28 (0, 0))) := Lib.hid fun W hW => (hW.block _ (by omega)).trans hx1
  have hx0 : w0.heap[w.heap.size]? = some (.cells #[.int .u8 h0, .int .u8 h1, .int .u8 h2, .int .u8 h3, .int .u8 h4, .int .u8 h5, .int .u8 h6, .int .u8 h7] 28 (0, 0)) := HXX.out w0 (by rw [← hw0]; exact (Below.refl _ w1).alloc (Nat.le_refl _) _)
  have HW1 := Lib.hid hw1; have HW0 := Lib.hid hw0; have HB1 := Lib.hid hB1; have HX0 := Lib.hid hx0
  have hss : w1.heap.size ≤ w.heap.size + 1 := by omega
  have hor := or_ver (h0 % 64) (by omega)
  clear hw1 hw0 hB1 hx1 hbt ha
  obtain ⟨v0, hv0⟩ : ∃ v, 128 + h0 % 64 = v := ⟨_, rfl⟩
  rw [hv0] at hor
  have hv0b : 0 ≤ v0 ∧ v0 < 256 := by omega
  have HV0 := Lib.hid hv0; clear hv0
  have x1 : w0.cell? ⟨w.heap.size, 1, none⟩ = some (.int .u8 h1) := by rw [cell_of_row w0 _ 1 _ _ _ hx0]; rfl
  clear hx0
  go_enter Try.func116, Try.ntmps116
  go_wp2_with fail
  rw [HW1.out, HW0.out]
  refine (st_byte hss HS0.out v0 (by omega) (by omega) (by omega)).mono ?_
  rintro e w2 ⟨rfl, h2'⟩
  have H2 := Lib.hid h2'
  have hx2 : w2.heap[w.heap.size]? = some (.cells #[.int .u8 h0, .int .u8 h1, .int .u8 h2, .int .u8 h3, .int .u8 h4, .int .u8 h5, .int .u8 h6, .int .u8 h7] 28 (0, 0)) := by obtain ⟨_, _, _, hlow⟩ := h2'; exact HXX.out w2 hlow
  have x1 : w2.cell? ⟨w.heap.size, 1, none⟩ = some (.int .u8 h1) := by rw [cell_of_row w2 _ 1 _ _ _ hx2]; rfl
  clear h2' HS0 hx2
  go_wp2_with fail
  refine (st_byte hss H2.out h1 (by omega) (by omega) (by omega)).mono ?_
  rintro e w3 ⟨rfl, h3'⟩
  have H3 := Lib.hid h3'; clear h3' H2 x1
  go_wp2_with fail
  refine (st_word hss H3.out sq hq (by omega)).mono ?_
  rintro e w4 ⟨rfl, h4'⟩
  have H4 := Lib.hid h4'; clear h4' H3
  go_wp2_with fail
  refine (st_put hss H4.out (some ⟨w.heap.size, 2, none⟩) 4 _ _ HBT.out (by omega) (by omega)).mono ?_
  rintro e w5 ⟨rfl, h5'⟩
  have H5 := Lib.hid h5'; clear h5' H4
  go_wp2_with fail
  refine (st_long hss H5.out ss hs (by omega)).mono ?_
  rintro e w6 ⟨rfl, h6'⟩
  have H6 := Lib.hid h6'; clear h6' H5
  go_wp2_with fail
  refine (st_put hss H6.out a n c la HLA.out (by omega) (by omega)).mono ?_
  rintro e w7 ⟨rfl, h7'⟩
  have H7 := Lib.hid h7'; clear h7' H6
  go_wp2_with fail
  refine (st_done H7.out (by omega)).mono ?_
  rintro e w8 ⟨a8, c8, rfl, hO8, hB8⟩
  have HF : Hid (Post (.returned (.slice a8 (0 + 1 + 1 + 2 + 4 + 4 + n) c8)) w8) := Lib.hid (by
    rw [← HPOST.out]
    obtain ⟨_, _, _, hlow⟩ := H7.out
    have hz := hlow.size
    refine ⟨a8, c8, by rw [show 0 + 1 + 1 + 2 + 4 + 4 + n = 12 + n from by omega], ?_, HB1.out.trans ((hlow.trans (hB8.mono hlow.size)).mono HB1.out.size)⟩
    have e1 : ([] ++ Big 1 v0 ++ Big 1 h1 ++ Big 2 sq ++ [h2, h3, h4, h5] ++ Big 4 ss ++ la) = ([128 + h0 % 64, h1] ++ (Big 2 sq ++ ([h2, h3, h4, h5] ++ (Big 4 ss ++ la)))) := by
      rw [HV0.out, Big1, Big1, show v0 % 256 = v0 from by omega, show h1 % 256 = h1 from by omega]; simp
    rw [← e1, show 12 + n = 0 + 1 + 1 + 2 + 4 + 4 + n from by omega]
    exact hO8.mono (by have := HB1.out.size; omega))
  clear hO8 hB8 H7
  go_wp2_with fail
  exact HF.out
end Go.Proofs.Ytedhmoihlfjbdaa
namespace Go.Proofs.Ytedhmoihlfjbdaa
open Go.RowKit Go.Shelf
set_option linter.unusedVariables false
/-- Bytes and an error: new bytes l. -/
def WrOut (f : Int) (l : List Int) (w : World) (e : Ending) (w' : World) : Prop :=
  ∃ a n c, e = .returned (.tuple #[.slice a n c, .int .i64 f]) ∧ Own w' w.heap.size a n c l ∧ Below w.heap.size w w'
def wcode (p : Pk) (s : Pl) : Int :=
  if p.pt < 0 ∨ 127 < p.pt ∨ vext p s = false ∨ vpad p.pad s.nd = false then 1 else if 15 < s.nc then 3 else if 1500 < sz p s then 2 else 0
def wbytes (p : Pk) (s : Pl) : List Int := if wcode p s = 0 then enc p s else []
theorem WrOut.nil (f : Int) (w w' : World) (hb : Below w.heap.size w w') : WrOut f [] w (.returned (.tuple #[.slice none 0 0, .int .i64 f])) w' :=
  ⟨none, 0, 0, rfl, ⟨World.ownsRow_nil _ _ _ _, Str.ok_nil⟩, hb⟩
end Go.Proofs.Ytedhmoihlfjbdaa
namespace Go.Proofs.Ytedhmoihlfjbdaa
open Go.RowKit Go.Shelf
set_option linter.unusedVariables false
theorem Own.cap7 {W : World} {base : Nat} {a : Option Addr} {n c : Nat} {l : List Int} (h : Own W base a n c l) : n ≤ c := by
  rcases h.row.2 with ⟨hv, e⟩ | ⟨g, cap, cur, hv, hb, hg, h1, _⟩
  · simp at hv; omega
  · simp only [Value.slice.injEq, true_and] at hv; omega
/-- The bytes of the packet of an imprint whose length is k. -/
def ipb (h0 h1 h2 h3 h4 h5 h6 h7 : Int) (la : List Int) (k : Nat) (sq ss : Int) : List Int := [128 + h0 % 64, h1] ++ (Big 2 sq ++ ([h2, h3, h4, h5] ++ (Big 4 ss ++ la.take k)))
def ipl (h6 h7 : Int) : Nat := (h6 * 256 + h7).toNat
def ipc (h0 h1 h2 h3 h4 h5 h6 h7 : Int) (la : List Int) (sq ss : Int) : Int :=
  if la.length < ipl h6 h7 then 42 else if pcodeF (12 + ipl h6 h7) (ipb h0 h1 h2 h3 h4 h5 h6 h7 la (ipl h6 h7) sq ss) = 0 then 0 else 42
def ipo (h0 h1 h2 h3 h4 h5 h6 h7 : Int) (la : List Int) (sq ss : Int) : List Int := if ipc h0 h1 h2 h3 h4 h5 h6 h7 la sq ss = 0 then ipb h0 h1 h2 h3 h4 h5 h6 h7 la (ipl h6 h7) sq ss else []
set_option maxHeartbeats 400000 in
set_option maxRecDepth 100000 in
theorem packet_any (h0 h1 h2 h3 h4 h5 h6 h7 : Int) (a : Option Addr) (n c : Nat) (la : List Int) (sq ss : Int) (w : World) (ha : BAt w a n la) (hnc : n ≤ c) (hn : n ≤ 100000) (b0 : 0 ≤ h0 ∧ h0 < 256) (b1 : 0 ≤ h1 ∧ h1 < 256) (b2 : 0 ≤ h2 ∧ h2 < 256) (b3 : 0 ≤ h3 ∧ h3 < 256) (b4 : 0 ≤ h4 ∧ h4 < 256) (b5 : 0 ≤ h5 ∧ h5 < 256) (b6 : 0 ≤ h6 ∧ h6 < 256) (b7 : 0 ≤ h7 ∧ h7 < 256) (hq : 0 ≤ sq ∧ sq < 65536) (hs : 0 ≤ ss ∧ ss < 4294967296) :
    Calls Try.prog 73 #[.agg #[.int .u8 h0, .int .u8 h1, .int .u8 h2, .int .u8 h3, .int .u8 h4, .int .u8 h5, .int .u8 h6, .int .u8 h7, .slice a n c], .int .u16 sq, .int .u32 ss] w (WrOut (ipc h0 h1 h2 h3 h4 h5 h6 h7 la sq ss) (ipo h0 h1 h2 h3 h4 h5 h6 h7 la sq ss) w) := by
  have hlen := ha.len
  obtain ⟨w1, hw1⟩ : ∃ w1, w.alloc (.cells #[.int .u8 h0, .int .u8 h1, .int .u8 h2, .int .u8 h3, .int .u8 h4, .int .u8 h5, .int .u8 h6, .int .u8 h7, .slice a n c] 57) = w1 := ⟨_, rfl⟩
  have hB1 : Below w.heap.size w w1 := by rw [← hw1]; exact (Below.refl _ w).alloc (Nat.le_refl _) _
  have hx1 : w1.heap[w.heap.size]? = some (.cells #[.int .u8 h0, .int .u8 h1, .int .u8 h2, .int .u8 h3, .int .u8 h4, .int .u8 h5, .int .u8 h6, .int .u8 h7, .slice a n c] 57 (0, 0)) := by rw [← hw1]; exact lit_new rfl
  have hz1 : w1.heap.size = w.heap.size + 1 := by rw [← hw1]; simp
  have HXX : Hid (∀ W, Below w1.heap.size w1 W → W.heap[w.heap.size]? = some (.cells #[.int .u8 h0, .int .u8 h1, .int .u8 h2, .int .u8 h3, .int .u8 h4, .int .u8 h5, .int .u8 h6, .int .u8 h7, .slice a n c] 57 (0, 0))) := Lib.hid fun W hW => (hW.block _ (by omega)).trans hx1
  have HW1 := Lib.hid hw1; have HB1 := Lib.hid hB1
  have x0' : ∀ k v, #[.int .u8 h0, .int .u8 h1, .int .u8 h2, .int .u8 h3, .int .u8 h4, .int .u8 h5, .int .u8 h6, .int .u8 h7, .slice a n c][k]? = some v → w1.cell? ⟨w.heap.size, k, none⟩ = some v := fun k v hv => by rw [cell_of_row w1 _ k _ _ _ hx1]; exact hv
  have x0 : w1.cell? ⟨w.heap.size, 0, none⟩ = some (.int .u8 h0) := x0' 0 _ rfl
  have x1 : w1.cell? ⟨w.heap.size, 1, none⟩ = some (.int .u8 h1) := x0' 1 _ rfl
  have x2 : w1.cell? ⟨w.heap.size, 2, none⟩ = some (.int .u8 h2) := x0' 2 _ rfl
  have x3 : w1.cell? ⟨w.heap.size, 3, none⟩ = some (.int .u8 h3) := x0' 3 _ rfl
  have x4 : w1.cell? ⟨w.heap.size, 4, none⟩ = some (.int .u8 h4) := x0' 4 _ rfl
  have x5 : w1.cell? ⟨w.heap.size, 5, none⟩ = some (.int .u8 h5) := x0' 5 _ rfl
  have x6 : w1.cell? ⟨w.heap.size, 6, none⟩ = some (.int .u8 h6) := x0' 6 _ rfl
  have x7 : w1.cell? ⟨w.heap.size, 7, none⟩ = some (.int .u8 h7) := x0' 7 _ rfl
  have x8 : w1.cell? ⟨w.heap.size, 8, none⟩ = some (.slice a n c) := x0' 8 _ rfl
  clear x0' hw1 hx1
  have HLE := Lib.hid (fun W => length_any h0 h1 h2 h3 h4 h5 h6 h7 a n c W b6 b7)
  obtain ⟨k, hk⟩ : ∃ k, ipl h6 h7 = k := ⟨_, rfl⟩
  have hkz : h6 * 256 + h7 = (k : Int) := by unfold ipl at hk; omega
  rw [hkz] at HLE
  by_cases hlt : n < k
  · have e : ipc h0 h1 h2 h3 h4 h5 h6 h7 la sq ss = 42 := by unfold ipc; rw [if_pos (by omega)]
    have e2 : ipo h0 h1 h2 h3 h4 h5 h6 h7 la sq ss = [] := by unfold ipo; rw [if_neg (by rw [e]; decide)]
    rw [e, e2]
    have hltz : (n : Int) < (k : Int) := by omega
    clear e e2 hk
    go_enter Try.func73, Try.ntmps73
    go_upto_region 1 with (fail)
    rw [HW1.out]
    go_wp2_with fail
    refine (HLE.out _).mono ?_
    rintro e w2 ⟨rfl, hB⟩
    have HB := Lib.hid hB; clear hB HLE x0 x1 x2 x3 x4 x5 x6 x7 x8
    have hx := HXX.out w2 HB.out
    have x0 : w2.cell? ⟨w.heap.size, 0, none⟩ = some (.int .u8 h0) := by rw [cell_of_row w2 _ 0 _ _ _ hx]; rfl
    have x1 : w2.cell? ⟨w.heap.size, 1, none⟩ = some (.int .u8 h1) := by rw [cell_of_row w2 _ 1 _ _ _ hx]; rfl
    have x2 : w2.cell? ⟨w.heap.size, 2, none⟩ = some (.int .u8 h2) := by rw [cell_of_row w2 _ 2 _ _ _ hx]; rfl
    have x3 : w2.cell? ⟨w.heap.size, 3, none⟩ = some (.int .u8 h3) := by rw [cell_of_row w2 _ 3 _ _ _ hx]; rfl
    have x4 : w2.cell? ⟨w.heap.size, 4, none⟩ = some (.int .u8 h4) := by rw [cell_of_row w2 _ 4 _ _ _ hx]; rfl
    have x5 : w2.cell? ⟨w.heap.size, 5, none⟩ = some (.int .u8 h5) := by rw [cell_of_row w2 _ 5 _ _ _ hx]; rfl
    have x6 : w2.cell? ⟨w.heap.size, 6, none⟩ = some (.int .u8 h6) := by rw [cell_of_row w2 _ 6 _ _ _ hx]; rfl
    have x7 : w2.cell? ⟨w.heap.size, 7, none⟩ = some (.int .u8 h7) := by rw [cell_of_row w2 _ 7 _ _ _ hx]; rfl
    have x8 : w2.cell? ⟨w.heap.size, 8, none⟩ = some (.slice a n c) := by rw [cell_of_row w2 _ 8 _ _ _ hx]; rfl
    clear hx
    go_wp2_with fail
    refine bodyPost_ret (v := .tuple #[.slice none 0 0, .int .i64 42]) (by simp [results, Try.results73, go_sem]) rfl ?_
    exact WrOut.nil 42 w w2 (HB1.out.trans (HB.out.mono HB1.out.size))
  · have hltz : ¬ (n : Int) < (k : Int) := by omega
    have HEN : Hid (∀ W, Below w.heap.size w W → Calls Try.prog 116 #[.agg #[.int .u8 h0, .int .u8 h1, .int .u8 h2, .int .u8 h3, .int .u8 h4, .int .u8 h5, .int .u8 h6, .int .u8 h7], .slice a k c, .int .u16 sq, .int .u32 ss] W (NewB (12 + k) (ipb h0 h1 h2 h3 h4 h5 h6 h7 la k sq ss) W)) := Lib.hid fun W hW => by
      have := iencode_any h0 h1 h2 h3 h4 h5 h6 h7 a k c (la.take k) sq ss W ((ha.take k (by omega)).below hW) (by omega) b0 b1 b2 b3 b4 b5 hq hs
      exact this
    have HC : Hid (ipc h0 h1 h2 h3 h4 h5 h6 h7 la sq ss = if pcodeF (12 + k) (ipb h0 h1 h2 h3 h4 h5 h6 h7 la k sq ss) = 0 then 0 else 42) := Lib.hid (by unfold ipc; rw [hk, if_neg (by omega)])
    have HO : Hid (ipo h0 h1 h2 h3 h4 h5 h6 h7 la sq ss = if ipc h0 h1 h2 h3 h4 h5 h6 h7 la sq ss = 0 then ipb h0 h1 h2 h3 h4 h5 h6 h7 la k sq ss else []) := Lib.hid (by unfold ipo; rw [hk])
    generalize ipc h0 h1 h2 h3 h4 h5 h6 h7 la sq ss = f at *
    generalize ipo h0 h1 h2 h3 h4 h5 h6 h7 la sq ss = O at *
    generalize ipb h0 h1 h2 h3 h4 h5 h6 h7 la k sq ss = B at *
    have hk0 : (0 : Int) ≤ (k : Int) := by omega
    have hkc : (k : Int) ≤ (c : Int) := by omega
    clear hk hkz
    go_enter Try.func73, Try.ntmps73
    go_upto_region 1 with (fail)
    rw [HW1.out]
    go_wp2_with fail
    refine (HLE.out _).mono ?_
    rintro e w2 ⟨rfl, hB⟩
    have HB := Lib.hid hB; clear hB HLE x0 x1 x2 x3 x4 x5 x6 x7 x8
    have hx := HXX.out w2 HB.out
    have x0 : w2.cell? ⟨w.heap.size, 0, none⟩ = some (.int .u8 h0) := by rw [cell_of_row w2 _ 0 _ _ _ hx]; rfl
    have x1 : w2.cell? ⟨w.heap.size, 1, none⟩ = some (.int .u8 h1) := by rw [cell_of_row w2 _ 1 _ _ _ hx]; rfl
    have x2 : w2.cell? ⟨w.heap.size, 2, none⟩ = some (.int .u8 h2) := by rw [cell_of_row w2 _ 2 _ _ _ hx]; rfl
    have x3 : w2.cell? ⟨w.heap.size, 3, none⟩ = some (.int .u8 h3) := by rw [cell_of_row w2 _ 3 _ _ _ hx]; rfl
    have x4 : w2.cell? ⟨w.heap.size, 4, none⟩ = some (.int .u8 h4) := by rw [cell_of_row w2 _ 4 _ _ _ hx]; rfl
    have x5 : w2.cell? ⟨w.heap.size, 5, none⟩ = some (.int .u8 h5) := by rw [cell_of_row w2 _ 5 _ _ _ hx]; rfl
    have x6 : w2.cell? ⟨w.heap.size, 6, none⟩ = some (.int .u8 h6) := by rw [cell_of_row w2 _ 6 _ _ _ hx]; rfl
    have x7 : w2.cell? ⟨w.heap.size, 7, none⟩ = some (.int .u8 h7) := by rw [cell_of_row w2 _ 7 _ _ _ hx]; rfl
    have x8 : w2.cell? ⟨w.heap.size, 8, none⟩ = some (.slice a n c) := by rw [cell_of_row w2 _ 8 _ _ _ hx]; rfl
    clear hx
    go_wp2_with fail
    have hbl : Below w.heap.size w w2.drew := (HB1.out.trans (HB.out.mono HB1.out.size)).drew
    go_region_law (first
      | (go_simp; go_at_call 116; refine (HEN.out _ hbl).mono ?_; rintro e w3 ⟨a3, c3, rfl, hO3, hB3⟩; have HB3 := Lib.hid (hbl.trans (hB3.mono hbl.size)); have HO3 := Lib.hid (hO3.mono hbl.size); have HPA := Lib.hid (parse5_any a3 (12 + k) c3 B w3 hO3.bat hO3.cap7); clear hO3 hB3))
    all_goals
      clear HEN x0 x1 x2 x3 x4 x5 x6 x7 x8 hbl
      by_cases hf : pcodeF (12 + k) B = 0
      · have e1 : f = 0 := by rw [HC.out, if_pos hf]
        have e2 : O = B := by rw [HO.out, if_pos e1]
        rw [hf] at HPA
        subst e1 e2
        clear HC HO hf
        go_wp2_with fail
        refine (HPA.out).mono ?_
        rintro e w4 ⟨_, h4⟩
        obtain ⟨s4, rfl, _, hB4⟩ := h4 rfl
        have HF : Hid (∀ o, WrOut 0 O w (.returned (.tuple #[.slice a3 (12 + k) c3, .int .i64 0])) (w4.alloc o)) := Lib.hid fun o => ⟨a3, _, c3, rfl, (HO3.out.below hB4).below ((Below.refl _ w4).alloc (Nat.le_refl _) _), (HB3.out.trans (hB4.mono HB3.out.size)).alloc (Nat.le_trans HB3.out.size hB4.size) _⟩
        clear h4 hB4 HPA HO3
        unfold pkc
        go_wp2_with fail
        exact bodyPost_ret (v := .tuple #[.slice a3 (12 + k) c3, .int .i64 0]) (by simp [results, Try.results73, go_sem]) rfl (HF.out _)
      · have e1 : f = 42 := by rw [HC.out, if_neg hf]
        have e2 : O = [] := by rw [HO.out, if_neg (by rw [e1]; decide)]
        have hfb : (pcodeF (12 + k) B != 0) = true := by simpa using hf
        generalize pcodeF (12 + k) B = g at *
        subst e1 e2
        clear HC HO
        go_wp2_with fail
        refine (HPA.out).mono ?_
        rintro e w4 ⟨h4, _⟩
        obtain ⟨rfl, hB4⟩ := h4 hf
        have HF : Hid (∀ o, WrOut 42 [] w (.returned (.tuple #[.slice none 0 0, .int .i64 42])) (w4.alloc o)) := Lib.hid fun o => WrOut.nil 42 w _ ((HB3.out.trans (hB4.mono HB3.out.size)).alloc (Nat.le_trans HB3.out.size hB4.size) _)
        clear h4 hB4 HPA HO3
        go_wp2_with fail
        exact bodyPost_ret (v := .tuple #[.slice none 0 0, .int .i64 42]) (by simp [results, Try.results73, go_sem]) rfl (HF.out _)
end Go.Proofs.Ytedhmoihlfjbdaa
namespace Go.Proofs.Ytedhmoihlfjbdaa
open Go.RowKit Go.Shelf
set_option linter.unusedVariables false
attribute [local go_sem] Oper.semAt_some
/-- The cells of imprint k of a row at b, from o on. -/
def IvAt (W : World) (b o k : Nat) (h : Nat → Nat → Int) (ad : Nat → Option Addr) (nd cd : Nat → Nat) : Prop :=
  W.cell? ⟨b, o + k * 9, none⟩ = some (.int .u8 (h k 0)) ∧ W.cell? ⟨b, o + k * 9 + 1, none⟩ = some (.int .u8 (h k 1)) ∧ W.cell? ⟨b, o + k * 9 + 2, none⟩ = some (.int .u8 (h k 2)) ∧ W.cell? ⟨b, o + k * 9 + 3, none⟩ = some (.int .u8 (h k 3)) ∧ W.cell? ⟨b, o + k * 9 + 4, none⟩ = some (.int .u8 (h k 4)) ∧ W.cell? ⟨b, o + k * 9 + 5, none⟩ = some (.int .u8 (h k 5)) ∧ W.cell? ⟨b, o + k * 9 + 6, none⟩ = some (.int .u8 (h k 6)) ∧ W.cell? ⟨b, o + k * 9 + 7, none⟩ = some (.int .u8 (h k 7)) ∧ W.cell? ⟨b, o + k * 9 + 8, none⟩ = some (.slice (ad k) (nd k) (cd k))
def ivalsPre (B : Nat) (a : Option Addr) (len c b o : Nat) (h : Nat → Nat → Int) (ad : Nat → Option Addr) (nd cd : Nat → Nat) (W : World) : Prop :=
  W.cell? ⟨B, 0, none⟩ = some (.slice a len c) ∧ ∀ k, k < len → IvAt W b o k h ad nd cd
def ivalsRel (h : Nat → Nat → Int) (ad : Nat → Option Addr) (nd cd : Nat → Nat) (k : Nat) (v : Array Value) (_ _ : World) : Prop := v = #[.agg #[.int .u8 (h k 0), .int .u8 (h k 1), .int .u8 (h k 2), .int .u8 (h k 3), .int .u8 (h k 4), .int .u8 (h k 5), .int .u8 (h k 6), .int .u8 (h k 7), .slice (ad k) (nd k) (cd k)]]
set_option maxHeartbeats 1000000 in
set_option maxRecDepth 100000 in
theorem ivalues_rel (n : Nat) (hn : 1 ≤ n) (B : Nat) (a : Option Addr) (len c b o : Nat) (hlen : len ≤ 9223372036854775807) (ha : 0 < len → a = some ⟨b, o, none⟩) (h : Nat → Nat → Int) (ad : Nat → Option Addr) (nd cd : Nat → Nat) :
    SeqRel Fence.wide n Try.prog 111 #[.pointer (some ⟨B, 0, none⟩)] (ivalsRel h ad nd cd) len 0 (ivalsPre B a len c b o h ad nd cd) := by
  rintro l J Jx W hP hJ hJx hY h0
  have c0 := (hP 0 W h0).1
  have HY := Lib.hid hY; clear hY
  have HJ := Lib.hid hJ; have HJx := Lib.hid hJx; have HP := Lib.hid hP; have HA := Lib.hid ha; clear hJ hJx hP ha
  refine callsIn_of_wp Try.func111 rfl trivial ?_ rfl
  simp only [Try.ntmps111, List.size_toArray, List.length_cons, List.length_nil, Nat.reduceAdd, Nat.reduceSub, Array.replicate_succ, Array.replicate_zero, List.push_toArray, List.append_toArray, List.nil_append, List.cons_append]
  gi_wp2
  gi_loopw [7] (fun i wr => ∃ k : Nat, k ≤ len ∧ i = .int .i64 k ∧ Hid (J k wr) ∧ W.heap.size ≤ wr.heap.size) (fun i _ => len - (intOf i).toNat)
  case atStart => exact ⟨0, Nat.zero_le _, rfl, Lib.hid h0, Nat.le_refl _⟩
  case round =>
    clear h0 c0
    obtain ⟨k, hk, rfl, HJk, hsz⟩ := hrel
    by_cases hlt : k < len
    · have hltz : (k : Int) < (len : Int) := by omega
      obtain rfl := HA.out (by omega)
      obtain ⟨c1, c2, c3, c4, c5, c6, c7, c8, c9⟩ := (HP.out k wr HJk.out).2 k hlt
      obtain ⟨fn, tmps, assign, body, hy, hR⟩ := HY.out k #[.agg #[.int .u8 (h k 0), .int .u8 (h k 1), .int .u8 (h k 2), .int .u8 (h k 3), .int .u8 (h k 4), .int .u8 (h k 5), .int .u8 (h k 6), .int .u8 (h k 7), .slice (ad k) (nd k) (cd k)]] wr (wr.alloc (.cells #[.int .u8 (h k 0), .int .u8 (h k 1), .int .u8 (h k 2), .int .u8 (h k 3), .int .u8 (h k 4), .int .u8 (h k 5), .int .u8 (h k 6), .int .u8 (h k 7), .slice (ad k) (nd k) (cd k)] 57)) hlt HJk.out (grown_alloc wr _) rfl (by omega)
      have HR := Lib.hid hR; clear hR
      gi_wp2
      refine HR.out.mono ?_
      clear hy HR
      rintro e W2 (⟨rfl, hJ2, hs2, hk2⟩ | ⟨rfl, hJx2⟩)
      · have hs2' : wr.heap.size + 1 ≤ W2.heap.size := by simpa using hs2
        have HJ2 := Lib.hid hJ2; clear hJ2 hk2 hs2
        gi_wp2
        go_roundw
        case rel => exact ⟨k + 1, by omega, by go_num, HJ2, by omega⟩
        case measure => simp [intOf]; omega
      · gi_wp2
        refine bodyPost_ret (results_none rfl _ _ _) rfl ?_
        exact ⟨⟨_, rfl⟩, .inr ⟨k + 1, by omega, hJx2⟩⟩
    · have hltz : ¬ (k : Int) < (len : Int) := by omega
      obtain rfl : k = len := by omega
      gi_wp2
      go_end0
      exact ⟨⟨_, rfl⟩, .inl HJk.out⟩
theorem ivalues_any (a : Option Addr) (n c : Nat) (w : World) :
    Calls Try.prog 68 #[.slice a n c] w fun e w' => e = .returned (.func (.func 111) #[] #[.pointer (some ⟨w.heap.size, 0, none⟩)]) ∧ w' = w.alloc (.cells #[.slice a n c] 130) := by
  go_enter Try.func68, Try.ntmps68
  go_wp2
  go_ret
  exact ⟨rfl, rfl⟩
end Go.Proofs.Ytedhmoihlfjbdaa

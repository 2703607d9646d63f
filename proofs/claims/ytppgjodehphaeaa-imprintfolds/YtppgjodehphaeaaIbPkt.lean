
/-
  imprint.Packet.
-/
import Derived.Test.YtppgjodehphaeaaIbEnc
import Derived.Test.YtppgjodehphaeaaRtpWrite
import Derived.Deep.RegionLaw
import Derived.Deep.RegionHeld3
namespace Go.Proofs.Ytppgjodehphaeaa
open Go.RowKit Go.Shelf
set_option linter.unusedVariables false
theorem Own.cap7 {W : World} {base : Nat} {a : Option Addr} {n c : Nat} {l : List Int} (h : Own W base a n c l) : n ≤ c := by
  rcases h.row.2 with ⟨hv, e⟩ | ⟨g, cap, cur, hv, hb, hg, h1, _⟩
  · simp at hv; omega
  · simp only [Value.slice.injEq, true_and] at hv; omega
/-- The bytes of the packet of an imprint whose length is k. -/
def ipb (h0 h1 h2 h3 h4 h5 h6 h7 : Int) (la : List Int) (k : Nat) (sq ss : Int) : List Int := [128 + h0 % 64, h1] ++ (Big 2 sq ++ ([h2, h3, h4, h5] ++ (Big 4 ss ++ la.take k)))
def ipl (h6 h7 : Int) : Nat := (h6 * 256 + h7).toNat
def ipc (h0 h1 h2 h3 h4 h5 h6 h7 : Int) (la : List Int) (sq ss : Int) : Int :=
  if la.length < ipl h6 h7 then 42 else if pcodeF (12 + ipl h6 h7) (ipb h0 h1 h2 h3 h4 h5 h6 h7 la (ipl h6 h7) sq ss) = 0 then 0 else 42
def ipo (h0 h1 h2 h3 h4 h5 h6 h7 : Int) (la : List Int) (sq ss : Int) : List Int := if ipc h0 h1 h2 h3 h4 h5 h6 h7 la sq ss = 0 then ipb h0 h1 h2 h3 h4 h5 h6 h7 la (ipl h6 h7) sq ss else []
set_option maxHeartbeats 400000 in
set_option maxRecDepth 100000 in
theorem packet_any (h0 h1 h2 h3 h4 h5 h6 h7 : Int) (a : Option Addr) (n c : Nat) (la : List Int) (sq ss : Int) (w : World) (ha : BAt w a n la) (hnc : n ≤ c) (hn : n ≤ 100000) (b0 : 0 ≤ h0 ∧ h0 < 256) (b1 : 0 ≤ h1 ∧ h1 < 256) (b2 : 0 ≤ h2 ∧ h2 < 256) (b3 : 0 ≤ h3 ∧ h3 < 256) (b4 : 0 ≤ h4 ∧ h4 < 256) (b5 : 0 ≤ h5 ∧ h5 < 256) (b6 : 0 ≤ h6 ∧ h6 < 256) (b7 : 0 ≤ h7 ∧ h7 < 256) (hq : 0 ≤ sq ∧ sq < 65536) (hs : 0 ≤ ss ∧ ss < 4294967296) :
    Calls Try.prog 13 #[.agg #[.int .u8 h0, .int .u8 h1, .int .u8 h2, .int .u8 h3, .int .u8 h4, .int .u8 h5, .int .u8 h6, .int .u8 h7, .slice a n c], .int .u16 sq, .int .u32 ss] w (WrOut (ipc h0 h1 h2 h3 h4 h5 h6 h7 la sq ss) (ipo h0 h1 h2 h3 h4 h5 h6 h7 la sq ss) w) := by
  have hlen := ha.len
  obtain ⟨w1, hw1⟩ : ∃ w1, w.alloc (.cells #[.int .u8 h0, .int .u8 h1, .int .u8 h2, .int .u8 h3, .int .u8 h4, .int .u8 h5, .int .u8 h6, .int .u8 h7, .slice a n c] 27) = w1 := ⟨_, rfl⟩
  have hB1 : Below w.heap.size w w1 := by rw [← hw1]; exact (Below.refl _ w).alloc (Nat.le_refl _) _
  have hx1 : w1.heap[w.heap.size]? = some (.cells #[.int .u8 h0, .int .u8 h1, .int .u8 h2, .int .u8 h3, .int .u8 h4, .int .u8 h5, .int .u8 h6, .int .u8 h7, .slice a n c] 27 (0, 0)) := by rw [← hw1]; exact lit_new rfl
  have hz1 : w1.heap.size = w.heap.size + 1 := by rw [← hw1]; simp
  have HXX : Hid (∀ W, Below w1.heap.size w1 W → W.heap[w.heap.size]? = some (.cells #[.int .u8 h0, .int .u8 h1, .int .u8 h2, .int .u8 h3, .int .u8 h4, .int .u8 h5, .int .u8 h6, .int .u8 h7, .slice a n c] 27 (0, 0))) := Lib.hid fun W hW => (hW.block _ (by omega)).trans hx1
  have HW1 := Lib.hid hw1; have HB1 := Lib.hid hB1
  have x0' : ∀ k v, #[.int .u8 h0, .int .u8 h1, .int .u8 h2, .int .u8 h3, .int .u8 h4, .int .u8 h5, .int .u8 h6, .int .u8 h7, .slice a n c][k]? = some v → w1.cell? ⟨w.heap.size, k, none⟩ = some v := fun k v hv => by rw [cell_of_row w1 _ k _ _ _ hx1]; exact hv
  have x0 : w1.cell? ⟨w.heap.size, 0, none⟩ = some (.int .u8 h0) := x0' 0 _ rfl
  have x1 : w1.cell? ⟨w.heap.size, 1, none⟩ = some (.int .u8 h1) := x0' 1 _ rfl
  have x2 : w1.cell? ⟨w.heap.size, 2, none⟩ = some (.int .u8 h2) := x0' 2 _ rfl
  have x3 : w1.cell? ⟨w.heap.size, 3, none⟩ = some (.int .u8 h3) := x0' 3 _ rfl
  have x4 : w1.cell? ⟨w.heap.size, 4, none⟩ = some (.int .u8 h4) := x0' 4 _ rfl
  have x5 : w1.cell? ⟨w.heap.size, 5, none⟩ = some (.int .u8 h5) := x0' 5 _ rfl
  have x6 : w1.cell? ⟨w.heap.size, 6, none⟩ = some (.int .u8 h6) := x0' 6 _ rfl
  have x7 : w1.cell? ⟨w.heap.size, 7, none⟩ = some (.int .u8 h7) := x0' 7 _ rfl
  have x8 : w1.cell? ⟨w.heap.size, 8, none⟩ = some (.slice a n c) := x0' 8 _ rfl
  clear x0' hw1 hx1
  have HLE := Lib.hid (fun W => length_any h0 h1 h2 h3 h4 h5 h6 h7 a n c W b6 b7)
  obtain ⟨k, hk⟩ : ∃ k, ipl h6 h7 = k := ⟨_, rfl⟩
  have hkz : h6 * 256 + h7 = (k : Int) := by unfold ipl at hk; omega
  rw [hkz] at HLE
  by_cases hlt : n < k
  · have e : ipc h0 h1 h2 h3 h4 h5 h6 h7 la sq ss = 42 := by unfold ipc; rw [if_pos (by omega)]
    have e2 : ipo h0 h1 h2 h3 h4 h5 h6 h7 la sq ss = [] := by unfold ipo; rw [if_neg (by rw [e]; decide)]
    rw [e, e2]
    have hltz : (n : Int) < (k : Int) := by omega
    clear e e2 hk
    go_enter Try.func13, Try.ntmps13
    go_upto_region 1 with (fail)
    rw [HW1.out]
    go_wp2_with fail
    refine (HLE.out _).mono ?_
    rintro e w2 ⟨rfl, hB⟩
    have HB := Lib.hid hB; clear hB HLE x0 x1 x2 x3 x4 x5 x6 x7 x8
    have hx := HXX.out w2 HB.out
    have x0 : w2.cell? ⟨w.heap.size, 0, none⟩ = some (.int .u8 h0) := by rw [cell_of_row w2 _ 0 _ _ _ hx]; rfl
    have x1 : w2.cell? ⟨w.heap.size, 1, none⟩ = some (.int .u8 h1) := by rw [cell_of_row w2 _ 1 _ _ _ hx]; rfl
    have x2 : w2.cell? ⟨w.heap.size, 2, none⟩ = some (.int .u8 h2) := by rw [cell_of_row w2 _ 2 _ _ _ hx]; rfl
    have x3 : w2.cell? ⟨w.heap.size, 3, none⟩ = some (.int .u8 h3) := by rw [cell_of_row w2 _ 3 _ _ _ hx]; rfl
    have x4 : w2.cell? ⟨w.heap.size, 4, none⟩ = some (.int .u8 h4) := by rw [cell_of_row w2 _ 4 _ _ _ hx]; rfl
    have x5 : w2.cell? ⟨w.heap.size, 5, none⟩ = some (.int .u8 h5) := by rw [cell_of_row w2 _ 5 _ _ _ hx]; rfl
    have x6 : w2.cell? ⟨w.heap.size, 6, none⟩ = some (.int .u8 h6) := by rw [cell_of_row w2 _ 6 _ _ _ hx]; rfl
    have x7 : w2.cell? ⟨w.heap.size, 7, none⟩ = some (.int .u8 h7) := by rw [cell_of_row w2 _ 7 _ _ _ hx]; rfl
    have x8 : w2.cell? ⟨w.heap.size, 8, none⟩ = some (.slice a n c) := by rw [cell_of_row w2 _ 8 _ _ _ hx]; rfl
    clear hx
    go_wp2_with fail
    refine bodyPost_ret (v := .tuple #[.slice none 0 0, .int .i64 42]) (by simp [results, Try.results13, go_sem]) rfl ?_
    exact WrOut.nil 42 w w2 (HB1.out.trans (HB.out.mono HB1.out.size))
  · have hltz : ¬ (n : Int) < (k : Int) := by omega
    have HEN : Hid (∀ W, Below w.heap.size w W → Calls Try.prog 34 #[.agg #[.int .u8 h0, .int .u8 h1, .int .u8 h2, .int .u8 h3, .int .u8 h4, .int .u8 h5, .int .u8 h6, .int .u8 h7], .slice a k c, .int .u16 sq, .int .u32 ss] W (NewB (12 + k) (ipb h0 h1 h2 h3 h4 h5 h6 h7 la k sq ss) W)) := Lib.hid fun W hW => by
      have := iencode_any h0 h1 h2 h3 h4 h5 h6 h7 a k c (la.take k) sq ss W ((ha.take k (by omega)).below hW) (by omega) b0 b1 b2 b3 b4 b5 hq hs
      exact this
    have HC : Hid (ipc h0 h1 h2 h3 h4 h5 h6 h7 la sq ss = if pcodeF (12 + k) (ipb h0 h1 h2 h3 h4 h5 h6 h7 la k sq ss) = 0 then 0 else 42) := Lib.hid (by unfold ipc; rw [hk, if_neg (by omega)])
    have HO : Hid (ipo h0 h1 h2 h3 h4 h5 h6 h7 la sq ss = if ipc h0 h1 h2 h3 h4 h5 h6 h7 la sq ss = 0 then ipb h0 h1 h2 h3 h4 h5 h6 h7 la k sq ss else []) := Lib.hid (by unfold ipo; rw [hk])
    generalize ipc h0 h1 h2 h3 h4 h5 h6 h7 la sq ss = f at *
    generalize ipo h0 h1 h2 h3 h4 h5 h6 h7 la sq ss = O at *
    generalize ipb h0 h1 h2 h3 h4 h5 h6 h7 la k sq ss = B at *
    have hk0 : (0 : Int) ≤ (k : Int) := by omega
    have hkc : (k : Int) ≤ (c : Int) := by omega
    clear hk hkz
    go_enter Try.func13, Try.ntmps13
    go_upto_region 1 with (fail)
    rw [HW1.out]
    go_wp2_with fail
    refine (HLE.out _).mono ?_
    rintro e w2 ⟨rfl, hB⟩
    have HB := Lib.hid hB; clear hB HLE x0 x1 x2 x3 x4 x5 x6 x7 x8
    have hx := HXX.out w2 HB.out
    have x0 : w2.cell? ⟨w.heap.size, 0, none⟩ = some (.int .u8 h0) := by rw [cell_of_row w2 _ 0 _ _ _ hx]; rfl
    have x1 : w2.cell? ⟨w.heap.size, 1, none⟩ = some (.int .u8 h1) := by rw [cell_of_row w2 _ 1 _ _ _ hx]; rfl
    have x2 : w2.cell? ⟨w.heap.size, 2, none⟩ = some (.int .u8 h2) := by rw [cell_of_row w2 _ 2 _ _ _ hx]; rfl
    have x3 : w2.cell? ⟨w.heap.size, 3, none⟩ = some (.int .u8 h3) := by rw [cell_of_row w2 _ 3 _ _ _ hx]; rfl
    have x4 : w2.cell? ⟨w.heap.size, 4, none⟩ = some (.int .u8 h4) := by rw [cell_of_row w2 _ 4 _ _ _ hx]; rfl
    have x5 : w2.cell? ⟨w.heap.size, 5, none⟩ = some (.int .u8 h5) := by rw [cell_of_row w2 _ 5 _ _ _ hx]; rfl
    have x6 : w2.cell? ⟨w.heap.size, 6, none⟩ = some (.int .u8 h6) := by rw [cell_of_row w2 _ 6 _ _ _ hx]; rfl
    have x7 : w2.cell? ⟨w.heap.size, 7, none⟩ = some (.int .u8 h7) := by rw [cell_of_row w2 _ 7 _ _ _ hx]; rfl
    have x8 : w2.cell? ⟨w.heap.size, 8, none⟩ = some (.slice a n c) := by rw [cell_of_row w2 _ 8 _ _ _ hx]; rfl
    clear hx
    go_wp2_with fail
    have hbl : Below w.heap.size w w2.drew := (HB1.out.trans (HB.out.mono HB1.out.size)).drew
    go_region_law (first
      | (go_simp; go_at_call 34; refine (HEN.out _ hbl).mono ?_; rintro e w3 ⟨a3, c3, rfl, hO3, hB3⟩; have HB3 := Lib.hid (hbl.trans (hB3.mono hbl.size)); have HO3 := Lib.hid (hO3.mono hbl.size); have HPA := Lib.hid (parse5_any a3 (12 + k) c3 B w3 hO3.bat hO3.cap7); clear hO3 hB3))
    all_goals
      clear HEN x0 x1 x2 x3 x4 x5 x6 x7 x8 hbl
      by_cases hf : pcodeF (12 + k) B = 0
      · have e1 : f = 0 := by rw [HC.out, if_pos hf]
        have e2 : O = B := by rw [HO.out, if_pos e1]
        rw [hf] at HPA
        subst e1 e2
        clear HC HO hf
        go_wp2_with fail
        refine (HPA.out).mono ?_
        rintro e w4 ⟨_, h4⟩
        obtain ⟨s4, rfl, _, hB4⟩ := h4 rfl
        have HF : Hid (∀ o, WrOut 0 O w (.returned (.tuple #[.slice a3 (12 + k) c3, .int .i64 0])) (w4.alloc o)) := Lib.hid fun o => ⟨a3, _, c3, rfl, (HO3.out.below hB4).below ((Below.refl _ w4).alloc (Nat.le_refl _) _), (HB3.out.trans (hB4.mono HB3.out.size)).alloc (Nat.le_trans HB3.out.size hB4.size) _⟩
        clear h4 hB4 HPA HO3
        unfold pkc
        go_wp2_with fail
        exact bodyPost_ret (v := .tuple #[.slice a3 (12 + k) c3, .int .i64 0]) (by simp [results, Try.results13, go_sem]) rfl (HF.out _)
      · have e1 : f = 42 := by rw [HC.out, if_neg hf]
        have e2 : O = [] := by rw [HO.out, if_neg (by rw [e1]; decide)]
        have hfb : (pcodeF (12 + k) B != 0) = true := by simpa using hf
        generalize pcodeF (12 + k) B = g at *
        subst e1 e2
        clear HC HO
        go_wp2_with fail
        refine (HPA.out).mono ?_
        rintro e w4 ⟨h4, _⟩
        obtain ⟨rfl, hB4⟩ := h4 hf
        have HF : Hid (∀ o, WrOut 42 [] w (.returned (.tuple #[.slice none 0 0, .int .i64 42])) (w4.alloc o)) := Lib.hid fun o => WrOut.nil 42 w _ ((HB3.out.trans (hB4.mono HB3.out.size)).alloc (Nat.le_trans HB3.out.size hB4.size) _)
        clear h4 hB4 HPA HO3
        go_wp2_with fail
        exact bodyPost_ret (v := .tuple #[.slice none 0 0, .int .i64 42]) (by simp [results, Try.results13, go_sem]) rfl (HF.out _)
end Go.Proofs.Ytppgjodehphaeaa

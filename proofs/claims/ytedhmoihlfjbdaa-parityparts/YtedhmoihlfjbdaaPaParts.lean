
/-
  ParityParts: the walk.
-/
import Derived.Test.YtedhmoihlfjbdaaPaFew2
namespace Go.Proofs.Ytedhmoihlfjbdaa
open Go.RowKit Go.Shelf
set_option linter.unusedVariables false
/-- .. and the box of an imprint. -/
structure Q1 (w : World) (a : Option Addr) (len : Nat) (ls : List (List Int)) (R : Nat) (q : Nat → Int) (BB : Int) (X : Nat) (ab : Option Addr) (nb cb : Nat) (l : List Int) (P : Nat) (ax : Option Addr) (nx cx : Nat) (W : World) : Prop where
  t : PT w a len ls R q BB X ab nb cb l W
  x : W.heap[P]? = some (.cells #[.int .u8 (q 0), .int .u8 (q 1), .int .u8 (q 2), .int .u8 (q 3), .int .u8 (q 4), .int .u8 (q 5), .int .u8 (q 6), .int .u8 (q 7), .slice ax nx cx] 57 (0, 0))
section
variable {w : World} {a : Option Addr} {len : Nat} {ls : List (List Int)} {R : Nat} {q : Nat → Int} {BB : Int} {X : Nat} {ab : Option Addr} {nb cb : Nat} {l : List Int} {P : Nat} {ax : Option Addr} {nx cx : Nat} {W W' : World}
theorem Q1.below (h : Q1 w a len ls R q BB X ab nb cb l P ax nx cx W) (hb : Below W.heap.size W W') : Q1 w a len ls R q BB X ab nb cb l P ax nx cx W' :=
  ⟨h.t.below hb, (hb.block _ (Array.getElem?_eq_some_iff.1 h.x).1).trans h.x⟩
theorem Q1.all (h : Q1 w a len ls R q BB X ab nb cb l P ax nx cx W) : W.cell? ⟨R, 0, none⟩ = some (.int .u8 (q 0)) ∧ W.cell? ⟨R, 1, none⟩ = some (.int .u8 (q 1)) ∧ W.cell? ⟨R, 2, none⟩ = some (.int .u8 (q 2)) ∧ W.cell? ⟨R, 3, none⟩ = some (.int .u8 (q 3)) ∧ W.cell? ⟨R, 4, none⟩ = some (.int .u8 (q 4)) ∧ W.cell? ⟨R, 5, none⟩ = some (.int .u8 (q 5)) ∧ W.cell? ⟨R, 6, none⟩ = some (.int .u8 (q 6)) ∧ W.cell? ⟨R, 7, none⟩ = some (.int .u8 (q 7)) ∧ W.cell? ⟨R, 8, none⟩ = some (.int .u16 BB) ∧ W.cell? ⟨R, 9, none⟩ = some (.int .u64 (Mk.H X)) ∧ W.cell? ⟨R, 10, none⟩ = some (.int .u64 (Mk.L X)) ∧ W.cell? ⟨R, 11, none⟩ = some (.slice ab nb cb) ∧ W.cell? ⟨P, 0, none⟩ = some (.int .u8 (q 0)) ∧ W.cell? ⟨P, 1, none⟩ = some (.int .u8 (q 1)) ∧ W.cell? ⟨P, 2, none⟩ = some (.int .u8 (q 2)) ∧ W.cell? ⟨P, 3, none⟩ = some (.int .u8 (q 3)) ∧ W.cell? ⟨P, 4, none⟩ = some (.int .u8 (q 4)) ∧ W.cell? ⟨P, 5, none⟩ = some (.int .u8 (q 5)) ∧ W.cell? ⟨P, 6, none⟩ = some (.int .u8 (q 6)) ∧ W.cell? ⟨P, 7, none⟩ = some (.int .u8 (q 7)) ∧ W.cell? ⟨P, 8, none⟩ = some (.slice ax nx cx) ∧ Q1 w a len ls R q BB X ab nb cb l P ax nx cx W := by
  refine ⟨?_, ?_, ?_, ?_, ?_, ?_, ?_, ?_, ?_, ?_, ?_, ?_, ?_, ?_, ?_, ?_, ?_, ?_, ?_, ?_, ?_, h⟩
  iterate 12 (rw [cell_of_row W _ _ _ _ _ h.t.rb]; rfl)
  iterate 9 (rw [cell_of_row W _ _ _ _ _ h.x]; rfl)
theorem Q1.of (h : W.cell? ⟨R, 0, none⟩ = some (.int .u8 (q 0)) ∧ W.cell? ⟨R, 1, none⟩ = some (.int .u8 (q 1)) ∧ W.cell? ⟨R, 2, none⟩ = some (.int .u8 (q 2)) ∧ W.cell? ⟨R, 3, none⟩ = some (.int .u8 (q 3)) ∧ W.cell? ⟨R, 4, none⟩ = some (.int .u8 (q 4)) ∧ W.cell? ⟨R, 5, none⟩ = some (.int .u8 (q 5)) ∧ W.cell? ⟨R, 6, none⟩ = some (.int .u8 (q 6)) ∧ W.cell? ⟨R, 7, none⟩ = some (.int .u8 (q 7)) ∧ W.cell? ⟨R, 8, none⟩ = some (.int .u16 BB) ∧ W.cell? ⟨R, 9, none⟩ = some (.int .u64 (Mk.H X)) ∧ W.cell? ⟨R, 10, none⟩ = some (.int .u64 (Mk.L X)) ∧ W.cell? ⟨R, 11, none⟩ = some (.slice ab nb cb) ∧ W.cell? ⟨P, 0, none⟩ = some (.int .u8 (q 0)) ∧ W.cell? ⟨P, 1, none⟩ = some (.int .u8 (q 1)) ∧ W.cell? ⟨P, 2, none⟩ = some (.int .u8 (q 2)) ∧ W.cell? ⟨P, 3, none⟩ = some (.int .u8 (q 3)) ∧ W.cell? ⟨P, 4, none⟩ = some (.int .u8 (q 4)) ∧ W.cell? ⟨P, 5, none⟩ = some (.int .u8 (q 5)) ∧ W.cell? ⟨P, 6, none⟩ = some (.int .u8 (q 6)) ∧ W.cell? ⟨P, 7, none⟩ = some (.int .u8 (q 7)) ∧ W.cell? ⟨P, 8, none⟩ = some (.slice ax nx cx) ∧ Q1 w a len ls R q BB X ab nb cb l P ax nx cx W) : Q1 w a len ls R q BB X ab nb cb l P ax nx cx W := h.2.2.2.2.2.2.2.2.2.2.2.2.2.2.2.2.2.2.2.2.2
theorem Q1.belows (h : W.cell? ⟨R, 0, none⟩ = some (.int .u8 (q 0)) ∧ W.cell? ⟨R, 1, none⟩ = some (.int .u8 (q 1)) ∧ W.cell? ⟨R, 2, none⟩ = some (.int .u8 (q 2)) ∧ W.cell? ⟨R, 3, none⟩ = some (.int .u8 (q 3)) ∧ W.cell? ⟨R, 4, none⟩ = some (.int .u8 (q 4)) ∧ W.cell? ⟨R, 5, none⟩ = some (.int .u8 (q 5)) ∧ W.cell? ⟨R, 6, none⟩ = some (.int .u8 (q 6)) ∧ W.cell? ⟨R, 7, none⟩ = some (.int .u8 (q 7)) ∧ W.cell? ⟨R, 8, none⟩ = some (.int .u16 BB) ∧ W.cell? ⟨R, 9, none⟩ = some (.int .u64 (Mk.H X)) ∧ W.cell? ⟨R, 10, none⟩ = some (.int .u64 (Mk.L X)) ∧ W.cell? ⟨R, 11, none⟩ = some (.slice ab nb cb) ∧ W.cell? ⟨P, 0, none⟩ = some (.int .u8 (q 0)) ∧ W.cell? ⟨P, 1, none⟩ = some (.int .u8 (q 1)) ∧ W.cell? ⟨P, 2, none⟩ = some (.int .u8 (q 2)) ∧ W.cell? ⟨P, 3, none⟩ = some (.int .u8 (q 3)) ∧ W.cell? ⟨P, 4, none⟩ = some (.int .u8 (q 4)) ∧ W.cell? ⟨P, 5, none⟩ = some (.int .u8 (q 5)) ∧ W.cell? ⟨P, 6, none⟩ = some (.int .u8 (q 6)) ∧ W.cell? ⟨P, 7, none⟩ = some (.int .u8 (q 7)) ∧ W.cell? ⟨P, 8, none⟩ = some (.slice ax nx cx) ∧ Q1 w a len ls R q BB X ab nb cb l P ax nx cx W) (hb : Below W.heap.size W W') : W'.cell? ⟨R, 0, none⟩ = some (.int .u8 (q 0)) ∧ W'.cell? ⟨R, 1, none⟩ = some (.int .u8 (q 1)) ∧ W'.cell? ⟨R, 2, none⟩ = some (.int .u8 (q 2)) ∧ W'.cell? ⟨R, 3, none⟩ = some (.int .u8 (q 3)) ∧ W'.cell? ⟨R, 4, none⟩ = some (.int .u8 (q 4)) ∧ W'.cell? ⟨R, 5, none⟩ = some (.int .u8 (q 5)) ∧ W'.cell? ⟨R, 6, none⟩ = some (.int .u8 (q 6)) ∧ W'.cell? ⟨R, 7, none⟩ = some (.int .u8 (q 7)) ∧ W'.cell? ⟨R, 8, none⟩ = some (.int .u16 BB) ∧ W'.cell? ⟨R, 9, none⟩ = some (.int .u64 (Mk.H X)) ∧ W'.cell? ⟨R, 10, none⟩ = some (.int .u64 (Mk.L X)) ∧ W'.cell? ⟨R, 11, none⟩ = some (.slice ab nb cb) ∧ W'.cell? ⟨P, 0, none⟩ = some (.int .u8 (q 0)) ∧ W'.cell? ⟨P, 1, none⟩ = some (.int .u8 (q 1)) ∧ W'.cell? ⟨P, 2, none⟩ = some (.int .u8 (q 2)) ∧ W'.cell? ⟨P, 3, none⟩ = some (.int .u8 (q 3)) ∧ W'.cell? ⟨P, 4, none⟩ = some (.int .u8 (q 4)) ∧ W'.cell? ⟨P, 5, none⟩ = some (.int .u8 (q 5)) ∧ W'.cell? ⟨P, 6, none⟩ = some (.int .u8 (q 6)) ∧ W'.cell? ⟨P, 7, none⟩ = some (.int .u8 (q 7)) ∧ W'.cell? ⟨P, 8, none⟩ = some (.slice ax nx cx) ∧ Q1 w a len ls R q BB X ab nb cb l P ax nx cx W' := ((Q1.of h).below hb).all
theorem Q1.drews (h : W.cell? ⟨R, 0, none⟩ = some (.int .u8 (q 0)) ∧ W.cell? ⟨R, 1, none⟩ = some (.int .u8 (q 1)) ∧ W.cell? ⟨R, 2, none⟩ = some (.int .u8 (q 2)) ∧ W.cell? ⟨R, 3, none⟩ = some (.int .u8 (q 3)) ∧ W.cell? ⟨R, 4, none⟩ = some (.int .u8 (q 4)) ∧ W.cell? ⟨R, 5, none⟩ = some (.int .u8 (q 5)) ∧ W.cell? ⟨R, 6, none⟩ = some (.int .u8 (q 6)) ∧ W.cell? ⟨R, 7, none⟩ = some (.int .u8 (q 7)) ∧ W.cell? ⟨R, 8, none⟩ = some (.int .u16 BB) ∧ W.cell? ⟨R, 9, none⟩ = some (.int .u64 (Mk.H X)) ∧ W.cell? ⟨R, 10, none⟩ = some (.int .u64 (Mk.L X)) ∧ W.cell? ⟨R, 11, none⟩ = some (.slice ab nb cb) ∧ W.cell? ⟨P, 0, none⟩ = some (.int .u8 (q 0)) ∧ W.cell? ⟨P, 1, none⟩ = some (.int .u8 (q 1)) ∧ W.cell? ⟨P, 2, none⟩ = some (.int .u8 (q 2)) ∧ W.cell? ⟨P, 3, none⟩ = some (.int .u8 (q 3)) ∧ W.cell? ⟨P, 4, none⟩ = some (.int .u8 (q 4)) ∧ W.cell? ⟨P, 5, none⟩ = some (.int .u8 (q 5)) ∧ W.cell? ⟨P, 6, none⟩ = some (.int .u8 (q 6)) ∧ W.cell? ⟨P, 7, none⟩ = some (.int .u8 (q 7)) ∧ W.cell? ⟨P, 8, none⟩ = some (.slice ax nx cx) ∧ Q1 w a len ls R q BB X ab nb cb l P ax nx cx W) : W.drew.cell? ⟨R, 0, none⟩ = some (.int .u8 (q 0)) ∧ W.drew.cell? ⟨R, 1, none⟩ = some (.int .u8 (q 1)) ∧ W.drew.cell? ⟨R, 2, none⟩ = some (.int .u8 (q 2)) ∧ W.drew.cell? ⟨R, 3, none⟩ = some (.int .u8 (q 3)) ∧ W.drew.cell? ⟨R, 4, none⟩ = some (.int .u8 (q 4)) ∧ W.drew.cell? ⟨R, 5, none⟩ = some (.int .u8 (q 5)) ∧ W.drew.cell? ⟨R, 6, none⟩ = some (.int .u8 (q 6)) ∧ W.drew.cell? ⟨R, 7, none⟩ = some (.int .u8 (q 7)) ∧ W.drew.cell? ⟨R, 8, none⟩ = some (.int .u16 BB) ∧ W.drew.cell? ⟨R, 9, none⟩ = some (.int .u64 (Mk.H X)) ∧ W.drew.cell? ⟨R, 10, none⟩ = some (.int .u64 (Mk.L X)) ∧ W.drew.cell? ⟨R, 11, none⟩ = some (.slice ab nb cb) ∧ W.drew.cell? ⟨P, 0, none⟩ = some (.int .u8 (q 0)) ∧ W.drew.cell? ⟨P, 1, none⟩ = some (.int .u8 (q 1)) ∧ W.drew.cell? ⟨P, 2, none⟩ = some (.int .u8 (q 2)) ∧ W.drew.cell? ⟨P, 3, none⟩ = some (.int .u8 (q 3)) ∧ W.drew.cell? ⟨P, 4, none⟩ = some (.int .u8 (q 4)) ∧ W.drew.cell? ⟨P, 5, none⟩ = some (.int .u8 (q 5)) ∧ W.drew.cell? ⟨P, 6, none⟩ = some (.int .u8 (q 6)) ∧ W.drew.cell? ⟨P, 7, none⟩ = some (.int .u8 (q 7)) ∧ W.drew.cell? ⟨P, 8, none⟩ = some (.slice ax nx cx) ∧ Q1 w a len ls R q BB X ab nb cb l P ax nx cx W.drew := Q1.belows h ((Below.refl _ W).drew)
end
theorem PksAt.drop {W : World} {b o : Nat} {len : Nat} {ls : List (List Int)} (h : PksAt W (some ⟨b, o, none⟩) len ls) (k : Nat) (hk : k ≤ len) : PksAt W (some ⟨b, o + k, none⟩) (len - k) (ls.drop k) := by
  obtain ⟨b', o', av, nv, cv, hr⟩ := h.row
  have hc := h.count
  refine ⟨by rw [List.length_drop]; omega, b, o + k, fun j => av (k + j), fun j => nv (k + j), fun j => cv (k + j), fun j hj => ?_⟩
  obtain ⟨h1, h2, h3, h4, h5⟩ := hr (k + j) (by omega)
  cases h1
  exact ⟨rfl, h2, by rw [Nat.add_assoc]; exact h3, by rw [getD_drop]; exact h4, h5⟩
/-- What Make leaves of packets that have a repair. -/
def MOut (ms : List (List Int)) (w : World) (e : Ending) (w' : World) : Prop :=
  ∃ (q : Nat → Int) (BB : Int) (X : Nat) (ab : Option Addr) (nb cb : Nat), e = .returned (.tuple #[.agg #[.int .u8 (q 0), .int .u8 (q 1), .int .u8 (q 2), .int .u8 (q 3), .int .u8 (q 4), .int .u8 (q 5), .int .u8 (q 6), .int .u8 (q 7), .int .u16 BB, .int .u64 (Mk.H X), .int .u64 (Mk.L X), .slice ab nb cb], .int .i64 0]) ∧ (∀ j, q j = (Pa.head ms).getD j 0) ∧ nb = (Pa.body ms).length ∧ BAt w' ab nb (Pa.body ms) ∧ Below w.heap.size w w'
theorem make_good (a : Option Addr) (len c : Nat) (ms : List (List Int)) (w : World) (h : PksAt w a len ms) (hlen : len ≤ 1000000000) (hc : Pa.code ms = 0) :
    Calls Try.prog 15 #[.slice a len c] w (MOut ms w) := by
  refine (make_any a len c ms w h hlen).mono ?_
  rintro e w' hout
  obtain ⟨q, BB, X, ab, nb, cb, rfl, hB, hrep⟩ := hout.rep
  obtain ⟨h1, _, _, h4, h5⟩ := hrep.good hc
  exact ⟨q, BB, X, ab, nb, cb, by rw [hc]; rfl, h1, h4, h5.bat, hB⟩
set_option maxHeartbeats 2000000 in
set_option maxRecDepth 100000 in
theorem parts_core (halive : ∀ w, Calls Try.prog 12 #[] w (ValB (.bool true) w)) (a : Option Addr) (len cap : Nat) (ls : List (List Int)) (at' : Int) (w : World) (hP0 : PksW w a len ls) (hcl : len ≤ cap) (hlenw : len ≤ 9223372036854775807) :
    Calls Try.prog 6 #[.slice a len cap, .int .i64 at'] w (ValB (.bool true) w) := by
  have HP0 := Lib.hid hP0
  have HCAP := Lib.hid hcl
  clear hP0 hcl
  go_enter Try.func6, Try.ntmps6
  go_wp2_with fail
  refine (halive _).mono ?_
  rintro e w1 ⟨rfl, hB1⟩
  have HP1 := Lib.hid (HP0.out.below hB1); have HB1 := Lib.hid hB1; clear hB1 HP0
  have hcount := HP1.out.count
  have HFEW := Lib.hid fun W (hW : Below w1.heap.size w1 W) => few_pkw a len cap ls 48 400 W (HP1.out.below hW) hlenw (by decide)
  go_wp2_with fail
  refine (HFEW.out _ (Below.refl _ _)).mono ?_
  rintro e w2 ⟨rfl, hB2⟩
  have HP2 := Lib.hid (HP1.out.below hB2); have HB2 := Lib.hid (bcomp HB1.out hB2); clear hB2 HFEW HP1 HB1
  cases hfew : Pa.few ls 48 400
  · go_wp2_with fail
    go_ret
    exact ⟨rfl, HB2.out⟩
  have hfl := few_le hfew
  rw [hcount] at hfl
  have hlen : len ≤ 1000000000 := by omega
  have HOK := Lib.hid HP2.out.pkok
  have HBS := Lib.hid (HP2.out.pkb (fun k hk => by have := hfl.2 k hk; omega))
  have HPP := Lib.hid (HP2.out.at' (fun k hk => by have := hfl.2 k hk; omega))
  clear hfl HP2
  have HP2 := HPP
  clear HPP
  go_wp2_with fail
  clear hfew
  refine (make_any a len cap ls w2 HP2.out hlen).mono ?_
  rintro e w3 hout
  obtain ⟨q, BB, X, ab, nb, cb, rfl, hB3, hrep⟩ := hout.rep
  have HP3 := Lib.hid (HP2.out.below hB3); have HB3 := Lib.hid (bcomp HB2.out hB3); have HREP := Lib.hid hrep
  clear hB3 hrep hout HP2 HB2
  by_cases hc : Pa.code ls = 0
  case neg =>
    obtain ⟨h1, rfl, rfl, rfl, rfl, rfl⟩ := HREP.out.bad hc
    have hcb : (Pa.code ls == 0) = false := beq_eq_false_iff_ne.2 hc
    clear hc HREP
    generalize Pa.code ls = cd at *
    unfold rpc
    simp only [h1]
    clear h1
    go_wp2_with fail
    go_ret
    exact ⟨rfl, HB3.out.alloc HB3.out.size _⟩
  obtain ⟨hq, hBB, hX, hnb, hO⟩ := HREP.out.good hc
  rw [hc]
  obtain ⟨w4, hw4⟩ : ∃ u, w3.alloc (.cells #[.int .u8 (q 0), .int .u8 (q 1), .int .u8 (q 2), .int .u8 (q 3), .int .u8 (q 4), .int .u8 (q 5), .int .u8 (q 6), .int .u8 (q 7), .int .u16 BB, .int .u64 (Mk.H X), .int .u64 (Mk.L X), .slice ab nb cb] 32) = u := ⟨_, rfl⟩
  have h34 : Below w3.heap.size w3 w4 := by rw [← hw4]; exact (Below.refl _ w3).alloc (Nat.le_refl _) _
  have HT4 := Lib.hid (show PT w a len ls w3.heap.size q BB X ab nb cb (Pa.body ls) w4 from ⟨HP3.out.below h34, by rw [← hw4]; exact lit_new rfl, (hO.below h34).bat, bcomp HB3.out h34⟩)
  obtain ⟨w5, hw5⟩ : ∃ u, w4.alloc (.cells #[.int .u8 (q 0), .int .u8 (q 1), .int .u8 (q 2), .int .u8 (q 3), .int .u8 (q 4), .int .u8 (q 5), .int .u8 (q 6), .int .u8 (q 7), .int .u16 BB, .int .u64 (Mk.H X), .int .u64 (Mk.L X), .slice ab nb cb] 32) = u := ⟨_, rfl⟩
  have h45 : Below w4.heap.size w4 w5 := by rw [← hw5]; exact (Below.refl _ w4).alloc (Nat.le_refl _) _
  have HT5 := Lib.hid (HT4.out.below h45)
  have hXok : Mk.Ok X := by rw [hX]; exact Cv.m_ok _ _ _
  have hrp5 : RpAt w5 (some ⟨w4.heap.size, 0, none⟩) 1 (fun _ => q) (fun _ => BB) (fun _ => X) (fun _ => ab) (fun _ => nb) (fun _ => cb) := by
    have hx : w5.heap[w4.heap.size]? = some (.cells #[.int .u8 (q 0), .int .u8 (q 1), .int .u8 (q 2), .int .u8 (q 3), .int .u8 (q 4), .int .u8 (q 5), .int .u8 (q 6), .int .u8 (q 7), .int .u16 BB, .int .u64 (Mk.H X), .int .u64 (Mk.L X), .slice ab nb cb] 32 (0, 0)) := by rw [← hw5]; exact lit_new rfl
    refine ⟨w4.heap.size, 0, fun i hi => ⟨rfl, (Array.getElem?_eq_some_iff.1 hx).1, hXok, fun k hk => ?_⟩⟩
    obtain rfl : i = 0 := by omega
    rw [cell_of_row w5 _ _ _ _ _ hx, Nat.zero_mul, Nat.zero_add]; simp
  have hbits : (Cv.seqs BB X).length = len := by unfold Cv.seqs; rw [List.length_map, hX, Pa.seqs_cnt hc, hcount]
  have HNS := Lib.hid (numbers_any (some ⟨w4.heap.size, 0, none⟩) 1 1 _ _ _ _ _ _ w5 hrp5 (by omega))
  have HBITS := Lib.hid hbits
  have HF := Lib.hid (And.intro hc (And.intro hq (And.intro hBB (And.intro hX hnb))))
  have HW4 := Lib.hid hw4; have HW5 := Lib.hid hw5
  have hr12 := HT4.out.rb
  have r0 : w4.cell? ⟨w3.heap.size, 0, none⟩ = some (.int .u8 (q 0)) := by rw [cell_of_row w4 _ 0 _ _ _ hr12]; rfl
  have r1 : w4.cell? ⟨w3.heap.size, 1, none⟩ = some (.int .u8 (q 1)) := by rw [cell_of_row w4 _ 1 _ _ _ hr12]; rfl
  have r2 : w4.cell? ⟨w3.heap.size, 2, none⟩ = some (.int .u8 (q 2)) := by rw [cell_of_row w4 _ 2 _ _ _ hr12]; rfl
  have r3 : w4.cell? ⟨w3.heap.size, 3, none⟩ = some (.int .u8 (q 3)) := by rw [cell_of_row w4 _ 3 _ _ _ hr12]; rfl
  have r4 : w4.cell? ⟨w3.heap.size, 4, none⟩ = some (.int .u8 (q 4)) := by rw [cell_of_row w4 _ 4 _ _ _ hr12]; rfl
  have r5 : w4.cell? ⟨w3.heap.size, 5, none⟩ = some (.int .u8 (q 5)) := by rw [cell_of_row w4 _ 5 _ _ _ hr12]; rfl
  have r6 : w4.cell? ⟨w3.heap.size, 6, none⟩ = some (.int .u8 (q 6)) := by rw [cell_of_row w4 _ 6 _ _ _ hr12]; rfl
  have r7 : w4.cell? ⟨w3.heap.size, 7, none⟩ = some (.int .u8 (q 7)) := by rw [cell_of_row w4 _ 7 _ _ _ hr12]; rfl
  have r8 : w4.cell? ⟨w3.heap.size, 8, none⟩ = some (.int .u16 BB) := by rw [cell_of_row w4 _ 8 _ _ _ hr12]; rfl
  have r9 : w4.cell? ⟨w3.heap.size, 9, none⟩ = some (.int .u64 (Mk.H X)) := by rw [cell_of_row w4 _ 9 _ _ _ hr12]; rfl
  have r10 : w4.cell? ⟨w3.heap.size, 10, none⟩ = some (.int .u64 (Mk.L X)) := by rw [cell_of_row w4 _ 10 _ _ _ hr12]; rfl
  have r11 : w4.cell? ⟨w3.heap.size, 11, none⟩ = some (.slice ab nb cb) := by rw [cell_of_row w4 _ 11 _ _ _ hr12]; rfl
  clear hc hq hBB hX hnb hO h34 h45 hw5 hrp5 hbits hr12 hXok HREP HP3 HB3
  unfold rpc
  go_wp2_with fail
  rw [HW5.out]
  refine HNS.out.mono ?_
  rintro e w6 ⟨a6, c6, A6, C6, rfl, hN, hB6⟩
  obtain ⟨g, rfl, _, hg1, hg2⟩ := own_cell hN.row (i := 0) (x := .slice (A6 0) (Cv.seqs BB X).length (C6 0)) rfl
  rw [HBITS.out] at hg2
  have HT6 := Lib.hid (HT5.out.below hB6)
  clear hN hB6 HNS HBITS HT5 HT4 HW4 HW5 hw4 r0 r1 r2 r3 r4 r5 r6 r7 r8 r9 r10 r11
  generalize w3.heap.size = R at *
  have hll : ((len : Int) == (len : Int)) = true := by simp
  by_cases h1 : len = 1
  · subst h1
    have hp0 := HT6.out.ps.get (k := 0) (by omega)
    obtain ⟨pb, po, pa, pn, pc, rfl, hpb, hcell, hba, hpc, _⟩ := hp0
    have hgd := (Pa.good_iff HOK.out).1 HF.out.1
    have hcode := hgd.pk 0 (by omega)
    rw [hba.len] at hcode
    have HOF := Lib.hid (of_any pa pn pc _ w6 hba hpc)
    have HCODE := Lib.hid hcode
    have hcell0 : w6.cell? ⟨pb, po, none⟩ = some (.slice pa pn pc) := hcell
    clear hgd hcode hcell hba
    go_wp2_with fail
    refine HOF.out.mono ?_
    rintro e w7 ⟨_, h4⟩
    obtain ⟨a7, c7, rfl, hO7, hB7⟩ := h4 HCODE.out
    have hl1 : ls = [ls.getD 0 []] := by
      match ls, hcount with
      | [x], _ => rfl
    have hbx := HBS.out (ls.getD 0 []) (by rw [hl1]; simp)
    generalize ls.getD 0 [] = l at *
    have hhd : Pa.head ls = ihd l := by rw [hl1]; exact all_one (ihd_Ok hbx)
    have hbd : Pa.body ls = l.drop 12 := by rw [hl1]; exact all_one (drop_Ok hbx.1 12)
    have hq8 : ∀ j, (ihd l).getD j 0 = q j := fun j => by rw [← hhd]; exact (HF.out.2.1 j).symm
    unfold ibc
    rw [hq8 0, hq8 1, hq8 2, hq8 3, hq8 4, hq8 5, hq8 6, hq8 7]
    have hl12 : l.length - 12 = nb := by rw [← List.length_drop, ← hbd]; exact HF.out.2.2.2.2.symm
    rw [hl12] at hO7 ⊢
    rw [← hbd] at hO7
    have HT7 := Lib.hid (HT6.out.below hB7)
    clear h4 HOF HCODE hl1 hbx hhd hbd hq8 hl12
    obtain ⟨w8, hw8⟩ : ∃ u, w7.alloc (.cells #[.int .u8 (q 0), .int .u8 (q 1), .int .u8 (q 2), .int .u8 (q 3), .int .u8 (q 4), .int .u8 (q 5), .int .u8 (q 6), .int .u8 (q 7), .slice a7 nb c7] 57) = u := ⟨_, rfl⟩
    have h78 : Below w7.heap.size w7 w8 := by rw [← hw8]; exact (Below.refl _ w7).alloc (Nat.le_refl _) _
    have hx8 : w8.heap[w7.heap.size]? = some (.cells #[.int .u8 (q 0), .int .u8 (q 1), .int .u8 (q 2), .int .u8 (q 3), .int .u8 (q 4), .int .u8 (q 5), .int .u8 (q 6), .int .u8 (q 7), .slice a7 nb c7] 57 (0, 0)) := by rw [← hw8]; exact lit_new rfl
    have HT8 := Lib.hid (HT7.out.below h78)
    have HX8 := Lib.hid hx8
    have HO8 := Lib.hid (hO7.below h78).bat
    clear hO7 hB7 HT7 HT6 h78 hx8
    have h64 : q 0 % 64 = q 0 := by rw [HF.out.2.1 0]; exact Pa.head64 HBS.out
    have hqb : 0 ≤ q 0 ∧ q 0 < 256 := by rw [HF.out.2.1 0]; exact Pa.head_ok HBS.out 0
    have hX127 : X = 2 ^ 127 := by rw [HF.out.2.2.2.1]; exact X_one hcount HOK.out
    have hHX : ((Mk.H X : Int) == 9223372036854775808) = true := by rw [hX127, H_127]; decide
    have hLX : ((Mk.L X : Int) == 0) = true := by rw [hX127, L_127]; decide
    have hnbb : nb = (Pa.body ls).length := HF.out.2.2.2.2
    have hnb15 : nb ≤ 1000000 := by
      rw [hnbb]
      refine Nat.le_trans (Pa.all_le 1500 _ [] (by simp) fun l hl => ?_) (by omega)
      obtain ⟨y, hy, rfl⟩ := List.mem_map.1 hl
      have := (HBS.out y hy).2
      rw [List.length_drop]; omega
    have HBY : Hid (∀ W, Q1 w (some ⟨pb, po, none⟩) 1 ls R q BB X ab nb cb (Pa.body ls) w7.heap.size a7 nb c7 W → Calls Try.prog 30 #[.agg #[.int .u8 (q 0), .int .u8 (q 1), .int .u8 (q 2), .int .u8 (q 3), .int .u8 (q 4), .int .u8 (q 5), .int .u8 (q 6), .int .u8 (q 7), .int .u16 BB, .int .u64 (Mk.H X), .int .u64 (Mk.L X), .slice ab nb cb]] W (fun e w' => ∃ a9 c9, e = .returned (.agg #[.int .u8 (q 0), .int .u8 (q 1), .int .u8 (q 2), .int .u8 (q 3), .int .u8 (q 4), .int .u8 (q 5), .int .u8 (q 6), .int .u8 (q 7), .slice a9 nb c9]) ∧ Own w' W.heap.size a9 nb c9 (Pa.body ls) ∧ Below W.heap.size W w')) := Lib.hid fun W hW => by
      have h := pbytes_any q BB X ab nb cb (Pa.body ls) W hqb hW.t.bd hnb15
      unfold rpc BytesOut at h
      rw [h64, ← hnbb] at h
      exact h
    have HSM : Hid (∀ W a9 c9, Q1 w (some ⟨pb, po, none⟩) 1 ls R q BB X ab nb cb (Pa.body ls) w7.heap.size a7 nb c7 W → BAt W a7 nb (Pa.body ls) → BAt W a9 nb (Pa.body ls) → Calls Try.prog 28 #[.agg #[.int .u8 (q 0), .int .u8 (q 1), .int .u8 (q 2), .int .u8 (q 3), .int .u8 (q 4), .int .u8 (q 5), .int .u8 (q 6), .int .u8 (q 7), .slice a7 nb c7], .agg #[.int .u8 (q 0), .int .u8 (q 1), .int .u8 (q 2), .int .u8 (q 3), .int .u8 (q 4), .int .u8 (q 5), .int .u8 (q 6), .int .u8 (q 7), .slice a9 nb c9]] W (ValB (.bool true) W)) := Lib.hid fun W a9 c9 hW h7 h9 => by
      have h := isame_any (q 0) (q 1) (q 2) (q 3) (q 4) (q 5) (q 6) (q 7) (q 0) (q 1) (q 2) (q 3) (q 4) (q 5) (q 6) (q 7) a7 a9 nb nb c7 c9 _ _ W h7 h9
      rw [decide_eq_true rfl, decide_eq_true (gap_self _)] at h
      exact h
    have HQ := Lib.hid (show Q1 w (some ⟨pb, po, none⟩) 1 ls R q BB X ab nb cb (Pa.body ls) w7.heap.size a7 nb c7 w8 from ⟨HT8.out, HX8.out⟩)
    have hS8 := HQ.out.all
    clear hX127 hnbb hnb15 h64 hqb HX8 HT8
    have HW8 := Lib.hid hw8
    clear hw8
    go_upto_region 13 with (fail)
    rw [HW8.out]
    clear HW8
    go_region_held3 (fun W => W.cell? ⟨R, 0, none⟩ = some (.int .u8 (q 0)) ∧ W.cell? ⟨R, 1, none⟩ = some (.int .u8 (q 1)) ∧ W.cell? ⟨R, 2, none⟩ = some (.int .u8 (q 2)) ∧ W.cell? ⟨R, 3, none⟩ = some (.int .u8 (q 3)) ∧ W.cell? ⟨R, 4, none⟩ = some (.int .u8 (q 4)) ∧ W.cell? ⟨R, 5, none⟩ = some (.int .u8 (q 5)) ∧ W.cell? ⟨R, 6, none⟩ = some (.int .u8 (q 6)) ∧ W.cell? ⟨R, 7, none⟩ = some (.int .u8 (q 7)) ∧ W.cell? ⟨R, 8, none⟩ = some (.int .u16 BB) ∧ W.cell? ⟨R, 9, none⟩ = some (.int .u64 (Mk.H X)) ∧ W.cell? ⟨R, 10, none⟩ = some (.int .u64 (Mk.L X)) ∧ W.cell? ⟨R, 11, none⟩ = some (.slice ab nb cb) ∧ W.cell? ⟨w7.heap.size, 0, none⟩ = some (.int .u8 (q 0)) ∧ W.cell? ⟨w7.heap.size, 1, none⟩ = some (.int .u8 (q 1)) ∧ W.cell? ⟨w7.heap.size, 2, none⟩ = some (.int .u8 (q 2)) ∧ W.cell? ⟨w7.heap.size, 3, none⟩ = some (.int .u8 (q 3)) ∧ W.cell? ⟨w7.heap.size, 4, none⟩ = some (.int .u8 (q 4)) ∧ W.cell? ⟨w7.heap.size, 5, none⟩ = some (.int .u8 (q 5)) ∧ W.cell? ⟨w7.heap.size, 6, none⟩ = some (.int .u8 (q 6)) ∧ W.cell? ⟨w7.heap.size, 7, none⟩ = some (.int .u8 (q 7)) ∧ W.cell? ⟨w7.heap.size, 8, none⟩ = some (.slice a7 nb c7) ∧ Q1 w (some ⟨pb, po, none⟩) 1 ls R q BB X ab nb cb (Pa.body ls) w7.heap.size a7 nb c7 W)
      (first | with_reducible assumption | with_reducible exact Q1.drews (by with_reducible assumption) | with_reducible exact Q1.belows (by with_reducible assumption) (by with_reducible assumption))
      (first
        | (go_at_call 30; refine (HBY.out _ (Q1.of (by assumption))).mono ?_; rintro e w9 ⟨a9, c9, rfl, hO9, hB9⟩; have H89 : Hid (Below w8.heap.size w8 w9) := Lib.hid (bcomp ((Below.refl _ w8).drew) hB9); have HO9 := Lib.hid hO9.bat; clear hO9)
        | (go_at_call 28; refine (HSM.out _ _ _ (Q1.of (by assumption)) (HO8.out.below H89.out) HO9.out).mono ?_; rintro e w10 ⟨rfl, hB10⟩))
    all_goals (go_wp2; go_ret; exact ⟨rfl, (Q1.of (by assumption)).t.low⟩)
  · have h1b : ((len : Int) == 1) = false := beq_eq_false_iff_ne.2 (by omega)
    have hgd := (Pa.good_iff HOK.out).1 HF.out.1
    have hl48 := hgd.few
    have hpos := hgd.pos
    rw [hcount] at hl48 hpos
    have hm1 := mask1023p at'
    obtain ⟨t0, ht0⟩ : ∃ t : Nat, bits .and .i64 at' 1023 = t := ⟨(bits .and .i64 at' 1023).toNat, by omega⟩
    have hmod : (bits .and .i64 at' 1023).tmod ((len : Int) - 1) = ((t0 % (len - 1) : Nat) : Int) := by
      rw [ht0, show ((len : Int) - 1) = ((len - 1 : Nat) : Int) from by omega]; rfl
    have hlt : t0 % (len - 1) < len - 1 := Nat.mod_lt _ (by omega)
    generalize t0 % (len - 1) = t1 at *
    obtain ⟨k, hk⟩ : ∃ k, 1 + t1 = k := ⟨_, rfl⟩
    have hwr : wrap64 (1 + (bits .and .i64 at' 1023).tmod ((len : Int) - 1)) = (k : Int) := by
      rw [hmod]; unfold wrap64; omega
    have hk1 : (0 : Int) ≤ (k : Int) := by omega
    have hk2 : (k : Int) ≤ (len : Int) := by omega
    have hcapz : (len : Int) ≤ (cap : Int) := by have := HCAP.out; omega
    have hk3 : (k : Int) ≤ (cap : Int) := by omega
    obtain ⟨pb, po, _, _, _, hap, _, _, _, _, _⟩ := HT6.out.ps.get (k := 0) (by omega)
    subst hap
    have hkl : k < len := by omega
    have hMa := fun W (hW : Below w6.heap.size w6 W) => make_good (some ⟨pb, po, none⟩) k cap (ls.take k) W ((HT6.out.below hW).ps.take k (by omega)) (by omega) (code_take HOK.out HF.out.1 (by omega) (by omega))
    have hMb := fun W (hW : Below w6.heap.size w6 W) => make_good (some ⟨pb, po + k, none⟩) (len - k) (cap - k) (ls.drop k) W ((HT6.out.below hW).ps.drop k (by omega)) (by omega) (code_drop HOK.out HF.out.1 (by omega))
    have HMA := Lib.hid hMa; have HMB := Lib.hid hMb
    clear hm1 ht0 hmod hgd hMa hMb
    go_wp2_with fail
    refine (HMA.out _ (Below.refl _ _)).mono ?_
    rintro e w7 ⟨qa, Ba, Xa, aa, na, ca, rfl, hqa, hna, hba, hB7⟩
    obtain ⟨w8, hw8⟩ : ∃ u, w7.alloc (.cells #[.int .u8 (qa 0), .int .u8 (qa 1), .int .u8 (qa 2), .int .u8 (qa 3), .int .u8 (qa 4), .int .u8 (qa 5), .int .u8 (qa 6), .int .u8 (qa 7), .int .u16 Ba, .int .u64 (Mk.H Xa), .int .u64 (Mk.L Xa), .slice aa na ca] 32) = u := ⟨_, rfl⟩
    have h78 : Below w7.heap.size w7 w8 := by rw [← hw8]; exact (Below.refl _ w7).alloc (Nat.le_refl _) _
    have ha8 : w8.heap[w7.heap.size]? = some (.cells #[.int .u8 (qa 0), .int .u8 (qa 1), .int .u8 (qa 2), .int .u8 (qa 3), .int .u8 (qa 4), .int .u8 (qa 5), .int .u8 (qa 6), .int .u8 (qa 7), .int .u16 Ba, .int .u64 (Mk.H Xa), .int .u64 (Mk.L Xa), .slice aa na ca] 32 (0, 0)) := by rw [← hw8]; exact lit_new rfl
    have H68 := Lib.hid (bcomp hB7 h78)
    have HA8 := Lib.hid (And.intro hqa (And.intro hna (And.intro (hba.below h78) ha8)))
    clear hqa hna hba hB7 h78 ha8 HMA
    go_wp2_with fail
    refine (HMB.out _ H68.out).mono ?_
    rintro e w9 ⟨qb, Bb, Xb, ab2, nb2, cb2, rfl, hqb, hnb2, hbb, hB9⟩
    obtain ⟨w10, hw10⟩ : ∃ u, w9.alloc (.cells #[.int .u8 (qb 0), .int .u8 (qb 1), .int .u8 (qb 2), .int .u8 (qb 3), .int .u8 (qb 4), .int .u8 (qb 5), .int .u8 (qb 6), .int .u8 (qb 7), .int .u16 Bb, .int .u64 (Mk.H Xb), .int .u64 (Mk.L Xb), .slice ab2 nb2 cb2] 32) = u := ⟨_, rfl⟩
    have h910 : Below w9.heap.size w9 w10 := by rw [← hw10]; exact (Below.refl _ w9).alloc (Nat.le_refl _) _
    have hb10 : w10.heap[w9.heap.size]? = some (.cells #[.int .u8 (qb 0), .int .u8 (qb 1), .int .u8 (qb 2), .int .u8 (qb 3), .int .u8 (qb 4), .int .u8 (qb 5), .int .u8 (qb 6), .int .u8 (qb 7), .int .u16 Bb, .int .u64 (Mk.H Xb), .int .u64 (Mk.L Xb), .slice ab2 nb2 cb2] 32 (0, 0)) := by rw [← hw10]; exact lit_new rfl
    have h810 := bcomp hB9 h910
    have H810 := Lib.hid h810
    have HB10 := Lib.hid (And.intro hqb (And.intro hnb2 (And.intro (hbb.below h910) hb10)))
    have HA10 := Lib.hid (And.intro HA8.out.1 (And.intro HA8.out.2.1 (And.intro (HA8.out.2.2.1.below h810) ((h810.block _ (Array.getElem?_eq_some_iff.1 HA8.out.2.2.2).1).trans HA8.out.2.2.2))))
    have HT10 := Lib.hid (HT6.out.below (bcomp H68.out h810))
    clear hqb hnb2 hbb hB9 h910 hb10 h810 HMB HA8 HT6 H68
    have hm : (len : Int) - 1 = ((len - 1 : Nat) : Int) := by omega
    obtain ⟨m, hmm⟩ : ∃ m, len - 1 = m := ⟨_, rfl⟩
    rw [hmm] at hm
    go_wp2_with fail
    generalize w7.heap.size = PA at *
    generalize w9.heap.size = PB at *
    obtain ⟨w11, hw11⟩ : ∃ u, ((w10.alloc (.cells #[.int .i64 0] 3)).alloc (.cells #[.int .i64 m] 3)).alloc (.cells #[.slice (some ⟨w10.heap.size, 0, none⟩) 1 1, .slice (some ⟨w10.heap.size + 1, 0, none⟩) 1 1] 23) = u := ⟨_, rfl⟩
    have h1011 : Below w10.heap.size w10 w11 := by rw [← hw11]; exact (((Below.refl _ w10).alloc (Nat.le_refl _) _).alloc (by simp) _).alloc (by simp; omega) _
    have hz11 : ShAt w11 (some ⟨w10.heap.size + 1 + 1, 0, none⟩) 2 (shp ls) := by
      have es : shp ls = [[0], [(m : Int)]] := by unfold shp; rw [hcount, hmm]
      rw [← hw11, es]
      refine ⟨rfl, w10.heap.size + 1 + 1, 0, fun k => if k = 0 then some ⟨w10.heap.size, 0, none⟩ else some ⟨w10.heap.size + 1, 0, none⟩, fun k => 1, fun k hk => ?_⟩
      match k, hk with
      | 0, _ =>
        refine ⟨rfl, by simp, by simp [go_sem], fun j hj => ?_, by simp⟩
        match j, hj with
        | 0, _ => exact ⟨_, 0, rfl, by simp; omega, by simp [go_sem], by show (-9223372036854775808 : Int) ≤ 0; decide, by show (0 : Int) ≤ 9223372036854775807; decide⟩
      | 1, _ =>
        refine ⟨rfl, by simp, by simp [go_sem], fun j hj => ?_, by simp⟩
        match j, hj with
        | 0, _ => exact ⟨_, 0, rfl, by simp, by simp [go_sem], by show -9223372036854775808 ≤ (m : Int); omega, by show (m : Int) ≤ 9223372036854775807; omega⟩
    have HT11 := Lib.hid (HT10.out.below h1011)
    have HA11 := Lib.hid (And.intro HA10.out.1 (And.intro HA10.out.2.1 (And.intro (HA10.out.2.2.1.below h1011) ((h1011.block _ (Array.getElem?_eq_some_iff.1 HA10.out.2.2.2).1).trans HA10.out.2.2.2))))
    have HB11 := Lib.hid (And.intro HB10.out.1 (And.intro HB10.out.2.1 (And.intro (HB10.out.2.2.1.below h1011) ((h1011.block _ (Array.getElem?_eq_some_iff.1 HB10.out.2.2.2).1).trans HB10.out.2.2.2))))
    have HBK := Lib.hid (block_any (some ⟨pb, po, none⟩) len cap ls _ 2 2 (shp ls) w11 HT11.out.ps hlen hz11 (by omega))
    rw [hw11]
    clear hw11 h1011 hz11 HT10 HA10 HB10 H810
    refine HBK.out.mono ?_
    rintro e w12 ⟨_, hbk⟩
    obtain ⟨sa, sc, SA, SC, rfl, hW, hB12⟩ := hbk (shp_code HOK.out HF.out.1 (by omega))
    obtain ⟨g2, rfl⟩ : ∃ g2, sa = some ⟨g2, 0, none⟩ := by
      rcases hW.row.2 with ⟨_, e⟩ | ⟨g', cap', cur, hv, _⟩
      · cases e
      · simp only [Value.slice.injEq] at hv; exact ⟨g', hv.1⟩
    have HQ := Lib.hid (show Q2 w pb po len ls R q BB X ab nb cb (Pa.body ls) PA qa Ba Xa aa na ca (Pa.body (ls.take k)) PB qb Bb Xb ab2 nb2 cb2 (Pa.body (ls.drop k)) w11.heap.size g2 sc (Pa.bh ls (shp ls)) (Pa.bb ls (shp ls)) (Pa.bx ls (shp ls)) SA (Pa.bd ls (shp ls)) SC w12 from ⟨HT11.out.below hB12, (hB12.block _ (Array.getElem?_eq_some_iff.1 HA11.out.2.2.2).1).trans HA11.out.2.2.2, HA11.out.2.2.1.below hB12, (hB12.block _ (Array.getElem?_eq_some_iff.1 HB11.out.2.2.2).1).trans HB11.out.2.2.2, HB11.out.2.2.1.below hB12, hW⟩)
    have HAB := Lib.hid (And.intro HA11.out.1 (And.intro HA11.out.2.1 (And.intro HB11.out.1 HB11.out.2.1)))
    clear hbk hW hB12 HBK HT11 HA11 HB11
    generalize w11.heap.size = base at *
    have hB1 := HBS.out.take k
    have hB2 := HBS.out.drop k
    have ht64 : qa 0 % 64 = qa 0 := by rw [HAB.out.1 0]; exact Pa.head64 hB1
    have hd64 : qb 0 % 64 = qb 0 := by rw [HAB.out.2.2.1 0]; exact Pa.head64 hB2
    have hr64 : q 0 % 64 = q 0 := by rw [HF.out.2.1 0]; exact Pa.head64 HBS.out
    have hta : ∀ j, 0 ≤ qa j ∧ qa j < 256 := fun j => by rw [HAB.out.1 j]; exact Pa.head_ok hB1 j
    have htb : ∀ j, 0 ≤ qb j ∧ qb j < 256 := fun j => by rw [HAB.out.2.2.1 j]; exact Pa.head_ok hB2 j
    have htr : ∀ j, 0 ≤ q j ∧ q j < 256 := fun j => by rw [HF.out.2.1 j]; exact Pa.head_ok HBS.out j
    have hna := HAB.out.2.1; have hnb2 := HAB.out.2.2.2; have hnbb : nb = (Pa.body ls).length := HF.out.2.2.2.2
    have hna15 : na ≤ 1500 := by rw [hna]; exact body_le hB1
    have hnb15 : nb2 ≤ 1500 := by rw [hnb2]; exact body_le hB2
    have hnr15 : nb ≤ 1500 := by rw [hnbb]; exact body_le HBS.out
    have hbapp : Pa.body ls = Str.xor (Pa.body (ls.take k)) (Pa.body (ls.drop k)) := by rw [← Pa.body_app hB1 hB2, List.take_append_drop]
    have hhapp : Pa.head ls = Str.xor (Pa.head (ls.take k)) (Pa.head (ls.drop k)) := by rw [← Pa.head_app hB1 hB2, List.take_append_drop]
    have hmaxl : nb = max na nb2 := by rw [hnbb, hbapp, Str.xor_len, hna, hnb2]
    have HBa : Hid (∀ W, Q2 w pb po len ls R q BB X ab nb cb (Pa.body ls) PA qa Ba Xa aa na ca (Pa.body (ls.take k)) PB qb Bb Xb ab2 nb2 cb2 (Pa.body (ls.drop k)) base g2 sc (Pa.bh ls (shp ls)) (Pa.bb ls (shp ls)) (Pa.bx ls (shp ls)) SA (Pa.bd ls (shp ls)) SC W → Calls Try.prog 30 #[.agg #[.int .u8 (qa 0), .int .u8 (qa 1), .int .u8 (qa 2), .int .u8 (qa 3), .int .u8 (qa 4), .int .u8 (qa 5), .int .u8 (qa 6), .int .u8 (qa 7), .int .u16 Ba, .int .u64 (Mk.H Xa), .int .u64 (Mk.L Xa), .slice aa na ca]] W (fun e w' => ∃ x cx, e = .returned (.agg #[.int .u8 (qa 0), .int .u8 (qa 1), .int .u8 (qa 2), .int .u8 (qa 3), .int .u8 (qa 4), .int .u8 (qa 5), .int .u8 (qa 6), .int .u8 (qa 7), .slice x na cx]) ∧ BAt w' x na (Pa.body (ls.take k)) ∧ Below W.heap.size W w')) := Lib.hid fun W hW => by
      have h := pbytes_any qa Ba Xa aa na ca (Pa.body (ls.take k)) W (hta 0) hW.ba (by omega)
      unfold rpc BytesOut at h
      rw [ht64, ← hna] at h
      exact h.mono fun e w' ⟨x, cx, h1, h2, h3⟩ => ⟨x, cx, h1, h2.bat, h3⟩
    have HBb : Hid (∀ W, Q2 w pb po len ls R q BB X ab nb cb (Pa.body ls) PA qa Ba Xa aa na ca (Pa.body (ls.take k)) PB qb Bb Xb ab2 nb2 cb2 (Pa.body (ls.drop k)) base g2 sc (Pa.bh ls (shp ls)) (Pa.bb ls (shp ls)) (Pa.bx ls (shp ls)) SA (Pa.bd ls (shp ls)) SC W → Calls Try.prog 30 #[.agg #[.int .u8 (qb 0), .int .u8 (qb 1), .int .u8 (qb 2), .int .u8 (qb 3), .int .u8 (qb 4), .int .u8 (qb 5), .int .u8 (qb 6), .int .u8 (qb 7), .int .u16 Bb, .int .u64 (Mk.H Xb), .int .u64 (Mk.L Xb), .slice ab2 nb2 cb2]] W (fun e w' => ∃ x cx, e = .returned (.agg #[.int .u8 (qb 0), .int .u8 (qb 1), .int .u8 (qb 2), .int .u8 (qb 3), .int .u8 (qb 4), .int .u8 (qb 5), .int .u8 (qb 6), .int .u8 (qb 7), .slice x nb2 cx]) ∧ BAt w' x nb2 (Pa.body (ls.drop k)) ∧ Below W.heap.size W w')) := Lib.hid fun W hW => by
      have h := pbytes_any qb Bb Xb ab2 nb2 cb2 (Pa.body (ls.drop k)) W (htb 0) hW.bb (by omega)
      unfold rpc BytesOut at h
      rw [hd64, ← hnb2] at h
      exact h.mono fun e w' ⟨x, cx, h1, h2, h3⟩ => ⟨x, cx, h1, h2.bat, h3⟩
    have HBr : Hid (∀ W, Q2 w pb po len ls R q BB X ab nb cb (Pa.body ls) PA qa Ba Xa aa na ca (Pa.body (ls.take k)) PB qb Bb Xb ab2 nb2 cb2 (Pa.body (ls.drop k)) base g2 sc (Pa.bh ls (shp ls)) (Pa.bb ls (shp ls)) (Pa.bx ls (shp ls)) SA (Pa.bd ls (shp ls)) SC W → Calls Try.prog 30 #[.agg #[.int .u8 (q 0), .int .u8 (q 1), .int .u8 (q 2), .int .u8 (q 3), .int .u8 (q 4), .int .u8 (q 5), .int .u8 (q 6), .int .u8 (q 7), .int .u16 BB, .int .u64 (Mk.H X), .int .u64 (Mk.L X), .slice ab nb cb]] W (fun e w' => ∃ x cx, e = .returned (.agg #[.int .u8 (q 0), .int .u8 (q 1), .int .u8 (q 2), .int .u8 (q 3), .int .u8 (q 4), .int .u8 (q 5), .int .u8 (q 6), .int .u8 (q 7), .slice x nb cx]) ∧ BAt w' x nb (Pa.body ls) ∧ Below W.heap.size W w')) := Lib.hid fun W hW => by
      have h := pbytes_any q BB X ab nb cb (Pa.body ls) W (htr 0) hW.t.bd (by omega)
      unfold rpc BytesOut at h
      rw [hr64, ← hnbb] at h
      exact h.mono fun e w' ⟨x, cx, h1, h2, h3⟩ => ⟨x, cx, h1, h2.bat, h3⟩
    have hne1 : ls.take k ≠ [] := fun e => by have h := congrArg List.length e; rw [List.length_take, List.length_nil, hcount] at h; omega
    have hne2 : ls.drop k ≠ [] := fun e => by have h := congrArg List.length e; rw [List.length_drop, List.length_nil, hcount] at h; omega
    have hla : [qa 0, qa 1, qa 2, qa 3, qa 4, qa 5, qa 6, qa 7] = Pa.head (ls.take k) := eight (Pa.head_len hne1) HAB.out.1
    have hlb : [qb 0, qb 1, qb 2, qb 3, qb 4, qb 5, qb 6, qb 7] = Pa.head (ls.drop k) := eight (Pa.head_len hne2) HAB.out.2.2.1
    have HAD : Hid (∀ W x cx y cy, BAt W x na (Pa.body (ls.take k)) → BAt W y nb2 (Pa.body (ls.drop k)) → Calls Try.prog 29 #[.agg #[.int .u8 (qa 0), .int .u8 (qa 1), .int .u8 (qa 2), .int .u8 (qa 3), .int .u8 (qa 4), .int .u8 (qa 5), .int .u8 (qa 6), .int .u8 (qa 7), .slice x na cx], .agg #[.int .u8 (qb 0), .int .u8 (qb 1), .int .u8 (qb 2), .int .u8 (qb 3), .int .u8 (qb 4), .int .u8 (qb 5), .int .u8 (qb 6), .int .u8 (qb 7), .slice y nb2 cy]] W (fun e w' => ∃ z cz, e = .returned (.agg #[.int .u8 (q 0), .int .u8 (q 1), .int .u8 (q 2), .int .u8 (q 3), .int .u8 (q 4), .int .u8 (q 5), .int .u8 (q 6), .int .u8 (q 7), .slice z nb cz]) ∧ BAt w' z nb (Pa.body ls) ∧ Below W.heap.size W w')) := Lib.hid fun W x cx y cy hx hy => by
      have h := iadd_any qa qb x y na nb2 cx cy _ _ W hx hy hta htb (by omega) (by omega)
      refine h.mono ?_
      rintro e w' ⟨z, cz, he, ho, hb⟩
      have e1 : Str.all [] [[qa 0, qa 1, qa 2, qa 3, qa 4, qa 5, qa 6, qa 7], [qb 0, qb 1, qb 2, qb 3, qb 4, qb 5, qb 6, qb 7]] = Pa.head ls := by
        rw [hla, hlb, hhapp]
        show Str.xor (Str.xor [] (Pa.head (ls.take k))) (Pa.head (ls.drop k)) = _
        rw [Str.nil_xor (Pa.head_ok hB1)]
      have e2 : Str.all [] [Pa.body (ls.take k), Pa.body (ls.drop k)] = Pa.body ls := by
        rw [hbapp]
        show Str.xor (Str.xor [] (Pa.body (ls.take k))) (Pa.body (ls.drop k)) = _
        rw [Str.nil_xor (Pa.body_ok hB1)]
      rw [e2, ← hnbb] at ho
      rw [e1, e2, ← hnbb] at he
      simp only [← HF.out.2.1] at he
      exact ⟨z, cz, he, ho.bat, hb⟩
    have HSM : Hid (∀ W x cx y cy, BAt W x nb (Pa.body ls) → BAt W y nb (Pa.body ls) → Calls Try.prog 28 #[.agg #[.int .u8 (q 0), .int .u8 (q 1), .int .u8 (q 2), .int .u8 (q 3), .int .u8 (q 4), .int .u8 (q 5), .int .u8 (q 6), .int .u8 (q 7), .slice x nb cx], .agg #[.int .u8 (q 0), .int .u8 (q 1), .int .u8 (q 2), .int .u8 (q 3), .int .u8 (q 4), .int .u8 (q 5), .int .u8 (q 6), .int .u8 (q 7), .slice y nb cy]] W (ValB (.bool true) W)) := Lib.hid fun W x cx y cy hx hy => by
      have h := isame_any (q 0) (q 1) (q 2) (q 3) (q 4) (q 5) (q 6) (q 7) (q 0) (q 1) (q 2) (q 3) (q 4) (q 5) (q 6) (q 7) x y nb nb cx cy _ _ W hx hy
      rw [decide_eq_true rfl, decide_eq_true (gap_self _)] at h
      exact h
    have HH0 : Hid (∀ W, Q2 w pb po len ls R q BB X ab nb cb (Pa.body ls) PA qa Ba Xa aa na ca (Pa.body (ls.take k)) PB qb Bb Xb ab2 nb2 cb2 (Pa.body (ls.drop k)) base g2 sc (Pa.bh ls (shp ls)) (Pa.bb ls (shp ls)) (Pa.bx ls (shp ls)) SA (Pa.bd ls (shp ls)) SC W → Calls Try.prog 26 #[.agg #[.int .u8 (Pa.bh ls (shp ls) 0 0), .int .u8 (Pa.bh ls (shp ls) 0 1), .int .u8 (Pa.bh ls (shp ls) 0 2), .int .u8 (Pa.bh ls (shp ls) 0 3), .int .u8 (Pa.bh ls (shp ls) 0 4), .int .u8 (Pa.bh ls (shp ls) 0 5), .int .u8 (Pa.bh ls (shp ls) 0 6), .int .u8 (Pa.bh ls (shp ls) 0 7), .int .u16 (Pa.bb ls (shp ls) 0), .int .u64 (Mk.H (Pa.bx ls (shp ls) 0)), .int .u64 (Mk.L (Pa.bx ls (shp ls) 0)), .slice (SA 0) (Pa.bd ls (shp ls) 0).length (SC 0)], .slice (some ⟨pb, po, none⟩) 1 cap] W (ValB (.bool true) W)) := Lib.hid fun W hW => by
      have h := holds_row hW.rs (k := 0) (by omega) (ls.take 1) (shp_pk0 (by omega)) (some ⟨pb, po, none⟩) 1 cap (hW.t.ps.take 1 (by omega)) (by omega) (code_take HOK.out HF.out.1 (by omega) (by omega)) (HBS.out.take 1)
      exact h
    have HH1 : Hid (∀ W, Q2 w pb po len ls R q BB X ab nb cb (Pa.body ls) PA qa Ba Xa aa na ca (Pa.body (ls.take k)) PB qb Bb Xb ab2 nb2 cb2 (Pa.body (ls.drop k)) base g2 sc (Pa.bh ls (shp ls)) (Pa.bb ls (shp ls)) (Pa.bx ls (shp ls)) SA (Pa.bd ls (shp ls)) SC W → Calls Try.prog 26 #[.agg #[.int .u8 (Pa.bh ls (shp ls) 1 0), .int .u8 (Pa.bh ls (shp ls) 1 1), .int .u8 (Pa.bh ls (shp ls) 1 2), .int .u8 (Pa.bh ls (shp ls) 1 3), .int .u8 (Pa.bh ls (shp ls) 1 4), .int .u8 (Pa.bh ls (shp ls) 1 5), .int .u8 (Pa.bh ls (shp ls) 1 6), .int .u8 (Pa.bh ls (shp ls) 1 7), .int .u16 (Pa.bb ls (shp ls) 1), .int .u64 (Mk.H (Pa.bx ls (shp ls) 1)), .int .u64 (Mk.L (Pa.bx ls (shp ls) 1)), .slice (SA 1) (Pa.bd ls (shp ls) 1).length (SC 1)], .slice (some ⟨pb, po + m, none⟩) (len - m) (cap - m)] W (ValB (.bool true) W)) := Lib.hid fun W hW => by
      have h := holds_row hW.rs (k := 1) (by omega) (ls.drop (ls.length - 1)) (shp_pk1 (by omega)) (some ⟨pb, po + m, none⟩) (len - m) (cap - m) (by rw [hcount, hmm]; exact hW.t.ps.drop m (by omega)) (by omega) (code_drop HOK.out HF.out.1 (by omega)) (HBS.out.drop _)
      exact h
    have hS := HQ.out.all
    have hcap1 : (1 : Int) ≤ (cap : Int) := by omega
    have hm0 : (0 : Int) ≤ (m : Int) := by omega
    have hm1' : (m : Int) ≤ (len : Int) := by omega
    have hm2 : (m : Int) ≤ (cap : Int) := by omega
    have hm3 : m < len := (last_facts hmm hpos HCAP.out hl48).1
    have hm4 : m < cap := (last_facts hmm hpos HCAP.out hl48).2.1
    have hm5 : (m : Int) < (cap : Int) := (last_facts hmm hpos HCAP.out hl48).2.2.1
    have hm6 : (m : Int) < (len : Int) := (last_facts hmm hpos HCAP.out hl48).2.2.2.1
    have hm7 : IntKind.i64.wrap ((len : Int) - 1) = (m : Int) := (last_facts hmm hpos HCAP.out hl48).2.2.2.2.1
    have hm8 : wrap64 ((len : Int) - 1) = (m : Int) := (last_facts hmm hpos HCAP.out hl48).2.2.2.2.2.1
    have hm13 : IntKind.i64.wrap (m : Int) = (m : Int) := (last_facts hmm hpos HCAP.out hl48).2.2.2.2.2.2.1
    have hm14 : wrap64 (m : Int) = (m : Int) := (last_facts hmm hpos HCAP.out hl48).2.2.2.2.2.2.2
    have hm12 : len ≤ cap := HCAP.out
    have hm15 : cap ≠ m := fun e => Nat.lt_irrefl _ (e ▸ hm4)
    have hm16 : ¬ cap = m := hm15
    clear hB1 hB2 ht64 hd64 hr64 hta htb htr hna hnb2 hnbb hna15 hnb15 hnr15 hbapp hhapp hla hlb hne1 hne2
    have HMX := Lib.hid hmaxl
    clear hmaxl
    go_upto_region 20 with (fail)
    have hmx : ((nb : Int) == max (na : Int) (nb2 : Int)) = true := max_beq HMX.out
    go_region_held3 (fun W => W.cell? ⟨R, 0, none⟩ = some (.int .u8 (q 0)) ∧ W.cell? ⟨R, 1, none⟩ = some (.int .u8 (q 1)) ∧ W.cell? ⟨R, 2, none⟩ = some (.int .u8 (q 2)) ∧ W.cell? ⟨R, 3, none⟩ = some (.int .u8 (q 3)) ∧ W.cell? ⟨R, 4, none⟩ = some (.int .u8 (q 4)) ∧ W.cell? ⟨R, 5, none⟩ = some (.int .u8 (q 5)) ∧ W.cell? ⟨R, 6, none⟩ = some (.int .u8 (q 6)) ∧ W.cell? ⟨R, 7, none⟩ = some (.int .u8 (q 7)) ∧ W.cell? ⟨R, 8, none⟩ = some (.int .u16 BB) ∧ W.cell? ⟨R, 9, none⟩ = some (.int .u64 (Mk.H X)) ∧ W.cell? ⟨R, 10, none⟩ = some (.int .u64 (Mk.L X)) ∧ W.cell? ⟨R, 11, none⟩ = some (.slice ab nb cb) ∧ W.cell? ⟨PA, 0, none⟩ = some (.int .u8 (qa 0)) ∧ W.cell? ⟨PA, 1, none⟩ = some (.int .u8 (qa 1)) ∧ W.cell? ⟨PA, 2, none⟩ = some (.int .u8 (qa 2)) ∧ W.cell? ⟨PA, 3, none⟩ = some (.int .u8 (qa 3)) ∧ W.cell? ⟨PA, 4, none⟩ = some (.int .u8 (qa 4)) ∧ W.cell? ⟨PA, 5, none⟩ = some (.int .u8 (qa 5)) ∧ W.cell? ⟨PA, 6, none⟩ = some (.int .u8 (qa 6)) ∧ W.cell? ⟨PA, 7, none⟩ = some (.int .u8 (qa 7)) ∧ W.cell? ⟨PA, 8, none⟩ = some (.int .u16 Ba) ∧ W.cell? ⟨PA, 9, none⟩ = some (.int .u64 (Mk.H Xa)) ∧ W.cell? ⟨PA, 10, none⟩ = some (.int .u64 (Mk.L Xa)) ∧ W.cell? ⟨PA, 11, none⟩ = some (.slice aa na ca) ∧ W.cell? ⟨PB, 0, none⟩ = some (.int .u8 (qb 0)) ∧ W.cell? ⟨PB, 1, none⟩ = some (.int .u8 (qb 1)) ∧ W.cell? ⟨PB, 2, none⟩ = some (.int .u8 (qb 2)) ∧ W.cell? ⟨PB, 3, none⟩ = some (.int .u8 (qb 3)) ∧ W.cell? ⟨PB, 4, none⟩ = some (.int .u8 (qb 4)) ∧ W.cell? ⟨PB, 5, none⟩ = some (.int .u8 (qb 5)) ∧ W.cell? ⟨PB, 6, none⟩ = some (.int .u8 (qb 6)) ∧ W.cell? ⟨PB, 7, none⟩ = some (.int .u8 (qb 7)) ∧ W.cell? ⟨PB, 8, none⟩ = some (.int .u16 Bb) ∧ W.cell? ⟨PB, 9, none⟩ = some (.int .u64 (Mk.H Xb)) ∧ W.cell? ⟨PB, 10, none⟩ = some (.int .u64 (Mk.L Xb)) ∧ W.cell? ⟨PB, 11, none⟩ = some (.slice ab2 nb2 cb2) ∧ W.cell? ⟨g2, 0, none⟩ = some (.int .u8 (Pa.bh ls (shp ls) 0 0)) ∧ W.cell? ⟨g2, 1, none⟩ = some (.int .u8 (Pa.bh ls (shp ls) 0 1)) ∧ W.cell? ⟨g2, 2, none⟩ = some (.int .u8 (Pa.bh ls (shp ls) 0 2)) ∧ W.cell? ⟨g2, 3, none⟩ = some (.int .u8 (Pa.bh ls (shp ls) 0 3)) ∧ W.cell? ⟨g2, 4, none⟩ = some (.int .u8 (Pa.bh ls (shp ls) 0 4)) ∧ W.cell? ⟨g2, 5, none⟩ = some (.int .u8 (Pa.bh ls (shp ls) 0 5)) ∧ W.cell? ⟨g2, 6, none⟩ = some (.int .u8 (Pa.bh ls (shp ls) 0 6)) ∧ W.cell? ⟨g2, 7, none⟩ = some (.int .u8 (Pa.bh ls (shp ls) 0 7)) ∧ W.cell? ⟨g2, 8, none⟩ = some (.int .u16 (Pa.bb ls (shp ls) 0)) ∧ W.cell? ⟨g2, 9, none⟩ = some (.int .u64 (Mk.H (Pa.bx ls (shp ls) 0))) ∧ W.cell? ⟨g2, 10, none⟩ = some (.int .u64 (Mk.L (Pa.bx ls (shp ls) 0))) ∧ W.cell? ⟨g2, 11, none⟩ = some (.slice (SA 0) (Pa.bd ls (shp ls) 0).length (SC 0)) ∧ W.cell? ⟨g2, 12, none⟩ = some (.int .u8 (Pa.bh ls (shp ls) 1 0)) ∧ W.cell? ⟨g2, 13, none⟩ = some (.int .u8 (Pa.bh ls (shp ls) 1 1)) ∧ W.cell? ⟨g2, 14, none⟩ = some (.int .u8 (Pa.bh ls (shp ls) 1 2)) ∧ W.cell? ⟨g2, 15, none⟩ = some (.int .u8 (Pa.bh ls (shp ls) 1 3)) ∧ W.cell? ⟨g2, 16, none⟩ = some (.int .u8 (Pa.bh ls (shp ls) 1 4)) ∧ W.cell? ⟨g2, 17, none⟩ = some (.int .u8 (Pa.bh ls (shp ls) 1 5)) ∧ W.cell? ⟨g2, 18, none⟩ = some (.int .u8 (Pa.bh ls (shp ls) 1 6)) ∧ W.cell? ⟨g2, 19, none⟩ = some (.int .u8 (Pa.bh ls (shp ls) 1 7)) ∧ W.cell? ⟨g2, 20, none⟩ = some (.int .u16 (Pa.bb ls (shp ls) 1)) ∧ W.cell? ⟨g2, 21, none⟩ = some (.int .u64 (Mk.H (Pa.bx ls (shp ls) 1))) ∧ W.cell? ⟨g2, 22, none⟩ = some (.int .u64 (Mk.L (Pa.bx ls (shp ls) 1))) ∧ W.cell? ⟨g2, 23, none⟩ = some (.slice (SA 1) (Pa.bd ls (shp ls) 1).length (SC 1)) ∧ Q2 w pb po len ls R q BB X ab nb cb (Pa.body ls) PA qa Ba Xa aa na ca (Pa.body (ls.take k)) PB qb Bb Xb ab2 nb2 cb2 (Pa.body (ls.drop k)) base g2 sc (Pa.bh ls (shp ls)) (Pa.bb ls (shp ls)) (Pa.bx ls (shp ls)) SA (Pa.bd ls (shp ls)) SC W)
      (first | with_reducible assumption | with_reducible exact Q2.drews (by with_reducible assumption) | with_reducible exact Q2.belows (by with_reducible assumption) (by with_reducible assumption))
      (first
        | (go_at_call 30; (with_reducible refine (HBa.out _ (Q2.of (by assumption))).mono ?_); rintro e wA ⟨xA, cA, rfl, hbA, hBA⟩; have HbA := Lib.hid hbA; clear hbA)
        | (go_at_call 30; (with_reducible refine (HBb.out _ (Q2.of (by assumption))).mono ?_); rintro e wB ⟨xB, cB, rfl, hbB, hBB⟩; have HbB := Lib.hid hbB; have HbA' := Lib.hid (HbA.out.below hBB); clear hbB)
        | (go_at_call 29; refine (HAD.out _ _ _ _ _ HbA'.out HbB.out).mono ?_; rintro e wC ⟨xC, cC, rfl, hbC, hBC⟩; have HbC := Lib.hid hbC; clear hbC)
        | (go_at_call 30; (with_reducible refine (HBr.out _ (Q2.of (by assumption))).mono ?_); rintro e wD ⟨xD, cD, rfl, hbD, hBD⟩; have HbD := Lib.hid hbD; have HbC' := Lib.hid (HbC.out.below hBD); clear hbD)
        | (go_at_call 28; refine (HSM.out _ _ _ _ _ HbC'.out HbD.out).mono ?_; rintro e wE ⟨rfl, hBE⟩)
        | (go_at_call 26; (with_reducible refine (HH0.out _ (Q2.of (by assumption))).mono ?_); rintro e wF ⟨rfl, hBF⟩)
        | (go_at_call 26; (with_reducible refine (HH1.out _ (Q2.of (by assumption))).mono ?_); rintro e wG ⟨rfl, hBG⟩))
    all_goals (go_wp2; go_ret; exact ⟨rfl, (Q2.of (by assumption)).t.low⟩)
end Go.Proofs.Ytedhmoihlfjbdaa

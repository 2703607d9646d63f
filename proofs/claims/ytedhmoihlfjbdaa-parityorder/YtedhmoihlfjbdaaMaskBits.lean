/-
  math/bits.LeadingZeros64 off the shelf, laid in plain words.
-/
import Derived.Test.YtedhmoihlfjbdaaMaskE
import Derived.Shelf.Small.Bits
import Derived.Lib.ItoaNum
import Derived.Test.YtedhmoihlfjbdaaMaskPlain
import Derived.Laws.Bits128
namespace Go.Proofs.Ytedhmoihlfjbdaa
open Go.RowKit Go.Shelf
set_option linter.unusedVariables false
def renLz : Ren :=
  ⟨fun k => match k with | 129 => 178 | 134 => 172 | _ => 0,
   fun k => match k with | 3 => 3 | 4 => 4 | 5 => 5 | 9 => 9 | 46 => 192 | 53 => 30 | _ => 0,
   fun k => k⟩
set_option maxRecDepth 100000 in
theorem lays134 : Lays.n134 Try.prog renLz :=
  { mixed := by kernel_rfl
    f129 := by kernel_rfl
    f134 := by kernel_rfl
    t3 := by kernel_rfl
    a3 := fun w => by kernel_rfl
    z3 := fun w => by kernel_rfl
    v3 := fun w => by kernel_rfl
    t4 := by kernel_rfl
    a4 := fun w => by kernel_rfl
    z4 := fun w => by kernel_rfl
    v4 := fun w => by kernel_rfl
    t5 := by kernel_rfl
    a5 := fun w => by kernel_rfl
    z5 := fun w => by kernel_rfl
    v5 := fun w => by kernel_rfl
    t9 := by kernel_rfl
    a9 := fun w => by kernel_rfl
    z9 := fun w => by kernel_rfl
    v9 := fun w => by kernel_rfl
    t46 := by kernel_rfl
    a46 := fun w => by kernel_rfl
    z46 := fun w => by kernel_rfl
    v46 := fun w => by kernel_rfl
    t53 := by kernel_rfl
    a53 := fun w => by kernel_rfl
    z53 := fun w => by kernel_rfl
    v53 := fun w => by kernel_rfl }
theorem lz_any (x : Nat) (w : World) (h : x < 18446744073709551616) :
    Calls Try.prog 172 #[.int .u64 x] w fun e w' => e = .returned (.int .i64 (64 - (Lib.bitLen x : Int))) ∧ w' = w := Any.bits_LeadingZeros64 lays134 x w (by omega) (by omega)
end Go.Proofs.Ytedhmoihlfjbdaa
namespace Go.Proofs.Ytedhmoihlfjbdaa
set_option linter.unusedVariables false
/-- How many of the lowest n bits are set. -/
def popN : Nat → Nat → Nat | 0, _ => 0 | n + 1, x => x % 2 + popN n (x / 2)
theorem popN_le (n x : Nat) : popN n x ≤ n := by
  induction n generalizing x with
  | zero => exact Nat.le_refl _
  | succ n ih => have := ih (x / 2); show x % 2 + popN n (x / 2) ≤ n + 1; omega
theorem popN_add (m n x : Nat) : popN (m + n) x = popN m x + popN n (x / 2 ^ m) := by
  induction m generalizing x with
  | zero => simp [popN]
  | succ m ih =>
    rw [show m + 1 + n = (m + n) + 1 by omega]
    show x % 2 + popN (m + n) (x / 2) = x % 2 + popN m (x / 2) + _
    rw [ih, Nat.div_div_eq_div_mul, ← Nat.pow_succ', Nat.add_assoc]
def f1 (M x : Nat) : Nat := (x / 2 &&& M) + (x &&& M)
def f2 (M x : Nat) : Nat := (x / 4 &&& M) + (x &&& M)
def f3 (M x : Nat) : Nat := (x / 16 + x) &&& M
theorem and_split (a b M : Nat) (hb : b < 256) (c : Nat) (hc : c < 256) : (b + 256 * a) &&& (c + 256 * M) = (b &&& c) + 256 * (a &&& M) := by
  have h1 := Nat.and_mod_two_pow (a := b + 256 * a) (b := c + 256 * M) (n := 8)
  have h2 := Nat.and_div_two_pow (a := b + 256 * a) (b := c + 256 * M) (n := 8)
  have e1 : (b + 256 * a) % 2 ^ 8 = b := by omega
  have e2 : (c + 256 * M) % 2 ^ 8 = c := by omega
  have e3 : (b + 256 * a) / 2 ^ 8 = a := by omega
  have e4 : (c + 256 * M) / 2 ^ 8 = M := by omega
  rw [e1, e2] at h1; rw [e3, e4] at h2
  omega
theorem and_low (a b k c : Nat) (hc : c < 2 ^ k) : (b + 2 ^ k * a) &&& c = b &&& c := by
  have h1 := Nat.and_mod_two_pow (a := b + 2 ^ k * a) (b := c) (n := k)
  have h2 := Nat.and_mod_two_pow (a := b) (b := c) (n := k)
  have e1 : (b + 2 ^ k * a) % 2 ^ k = b % 2 ^ k := by rw [Nat.add_mul_mod_self_left]
  rw [e1] at h1
  have l1 : ((b + 2 ^ k * a) &&& c) < 2 ^ k := Nat.lt_of_le_of_lt Nat.and_le_right hc
  have l2 : (b &&& c) < 2 ^ k := Nat.lt_of_le_of_lt Nat.and_le_right hc
  rw [Nat.mod_eq_of_lt l1] at h1; rw [Nat.mod_eq_of_lt l2] at h2
  rw [h1, h2]
theorem f1_split (p q M : Nat) (hp : p < 256) : f1 (85 + 256 * M) (p + 256 * q) = f1 85 p + 256 * f1 M q := by
  unfold f1
  rw [and_split q p M hp 85 (by decide)]
  have e : (p + 256 * q) / 2 = (p / 2 + 128 * (q % 2)) + 256 * (q / 2) := by omega
  rw [e, and_split _ _ _ (by omega) 85 (by decide), show p / 2 + 128 * (q % 2) = p / 2 + 2 ^ 7 * (q % 2) by omega, and_low _ _ 7 85 (by decide)]
  omega
theorem f2_split (p q M : Nat) (hp : p < 256) : f2 (51 + 256 * M) (p + 256 * q) = f2 51 p + 256 * f2 M q := by
  unfold f2
  rw [and_split q p M hp 51 (by decide)]
  have e : (p + 256 * q) / 4 = (p / 4 + 64 * (q % 4)) + 256 * (q / 4) := by omega
  rw [e, and_split _ _ _ (by omega) 51 (by decide), show p / 4 + 64 * (q % 4) = p / 4 + 2 ^ 6 * (q % 4) by omega, and_low _ _ 6 51 (by decide)]
  omega
theorem f3_split (p q M : Nat) (hp : p ≤ 68) (hq : q % 16 ≤ 4) : f3 (15 + 256 * M) (p + 256 * q) = f3 15 p + 256 * f3 M q := by
  unfold f3
  have e : (p + 256 * q) / 16 + (p + 256 * q) = (p / 16 + p + 16 * (q % 16)) + 256 * (q / 16 + q) := by omega
  rw [e, and_split _ _ _ (by omega) 15 (by decide), show p / 16 + p + 16 * (q % 16) = p / 16 + p + 2 ^ 4 * (q % 16) by omega, and_low _ _ 4 15 (by decide)]
theorem byte_all : ∀ b : Fin 256, f1 85 b.1 < 256 ∧ f2 51 (f1 85 b.1) ≤ 68 ∧ f2 51 (f1 85 b.1) % 16 ≤ 4 ∧ f3 15 (f2 51 (f1 85 b.1)) = popN 8 b.1 := by decide +kernel
def rep (c : Nat) : Nat → Nat | 0 => 0 | n + 1 => c + 256 * rep c n
def G : Nat → Nat → Nat | 0, _ => 0 | n + 1, x => popN 8 (x % 256) + 256 * G n (x / 256)
theorem swar (n x : Nat) : f2 (rep 51 n) (f1 (rep 85 n) x) % 16 ≤ 4 ∧ f3 (rep 15 n) (f2 (rep 51 n) (f1 (rep 85 n) x)) = G n x := by
  induction n generalizing x with
  | zero => simp [rep, f1, f2, f3, G]
  | succ n ih =>
    obtain ⟨h1, h2⟩ := ih (x / 256)
    obtain ⟨b1, b2, b3, b4⟩ := byte_all ⟨x % 256, by omega⟩
    have e : x = x % 256 + 256 * (x / 256) := by omega
    have s1 : f1 (rep 85 (n + 1)) x = f1 85 (x % 256) + 256 * f1 (rep 85 n) (x / 256) := by
      conv => lhs; rw [e]
      exact f1_split _ _ _ (by omega)
    have s2 : f2 (rep 51 (n + 1)) (f1 (rep 85 (n + 1)) x) = f2 51 (f1 85 (x % 256)) + 256 * f2 (rep 51 n) (f1 (rep 85 n) (x / 256)) := by
      rw [s1]; exact f2_split _ _ _ b1
    rw [s2]
    refine ⟨by simp only at b3; omega, ?_⟩
    rw [show rep 15 (n + 1) = 15 + 256 * rep 15 n from rfl, f3_split _ _ _ b2 h1, h2, b4]
    rfl
theorem popN_mod8 (x : Nat) : popN 8 (x % 256) = popN 8 x := by
  simp only [popN]; omega
theorem G_sum (x : Nat) (hx : x < 18446744073709551616) : ∃ c0 c1 c2 c3 c4 c5 c6 c7 : Nat, c0 ≤ 8 ∧ c1 ≤ 8 ∧ c2 ≤ 8 ∧ c3 ≤ 8 ∧ c4 ≤ 8 ∧ c5 ≤ 8 ∧ c6 ≤ 8 ∧ c7 ≤ 8 ∧
    G 8 x = c0 + 256 * (c1 + 256 * (c2 + 256 * (c3 + 256 * (c4 + 256 * (c5 + 256 * (c6 + 256 * c7)))))) ∧ popN 64 x = c0 + c1 + c2 + c3 + c4 + c5 + c6 + c7 := by
  refine ⟨popN 8 x, popN 8 (x / 256), popN 8 (x / 256 / 256), popN 8 (x / 256 / 256 / 256), popN 8 (x / 256 / 256 / 256 / 256), popN 8 (x / 256 / 256 / 256 / 256 / 256), popN 8 (x / 256 / 256 / 256 / 256 / 256 / 256), popN 8 (x / 256 / 256 / 256 / 256 / 256 / 256 / 256), popN_le _ _, popN_le _ _, popN_le _ _, popN_le _ _, popN_le _ _, popN_le _ _, popN_le _ _, popN_le _ _, ?_, ?_⟩
  · simp only [G, popN_mod8]; omega
  · rw [show 64 = 8 + (8 + (8 + (8 + (8 + (8 + (8 + 8)))))) from rfl]
    simp only [popN_add, show (2 : Nat) ^ 8 = 256 from rfl]; omega
/-- The last three steps. -/
def s8 (y : Nat) : Nat := y + y / 256
def s16 (y : Nat) : Nat := y + y / 65536
def s32 (y : Nat) : Nat := y + y / 4294967296
theorem s8_dig (c0 c1 c2 c3 c4 c5 c6 c7 : Nat) (h0 : c0 ≤ 8) : s8 (c0 + 256 * (c1 + 256 * (c2 + 256 * (c3 + 256 * (c4 + 256 * (c5 + 256 * (c6 + 256 * c7)))))))
    = (c0 + c1) + 256 * ((c1 + c2) + 256 * ((c2 + c3) + 256 * ((c3 + c4) + 256 * ((c4 + c5) + 256 * ((c5 + c6) + 256 * ((c6 + c7) + 256 * c7)))))) := by unfold s8; omega
theorem s16_dig (d0 d1 d2 d3 d4 d5 d6 d7 : Nat) (h0 : d0 ≤ 16) (h1 : d1 ≤ 16) : s16 (d0 + 256 * (d1 + 256 * (d2 + 256 * (d3 + 256 * (d4 + 256 * (d5 + 256 * (d6 + 256 * d7)))))))
    = (d0 + d2) + 256 * ((d1 + d3) + 256 * ((d2 + d4) + 256 * ((d3 + d5) + 256 * ((d4 + d6) + 256 * ((d5 + d7) + 256 * (d6 + 256 * d7)))))) := by unfold s16; omega
theorem s32_dig (d0 d1 d2 d3 R : Nat) (h0 : d0 ≤ 32) (h1 : d1 ≤ 32) (h2 : d2 ≤ 32) (h3 : d3 ≤ 32) : s32 (d0 + 256 * (d1 + 256 * (d2 + 256 * (d3 + 256 * R))))
    = d0 + R + 256 * (d1 + 256 * (d2 + 256 * (d3 + 256 * R))) := by unfold s32; omega
theorem fin3_G (x : Nat) (hx : x < 18446744073709551616) : s8 (G 8 x) < 18446744073709551616 ∧ s16 (s8 (G 8 x)) < 18446744073709551616 ∧ s32 (s16 (s8 (G 8 x))) < 18446744073709551616 ∧ s32 (s16 (s8 (G 8 x))) % 128 = popN 64 x := by
  obtain ⟨c0, c1, c2, c3, c4, c5, c6, c7, h0, h1, h2, h3, h4, h5, h6, h7, e1, e2⟩ := G_sum x hx
  rw [e1, e2, s8_dig _ _ _ _ _ _ _ _ h0, s16_dig _ _ _ _ _ _ _ _ (by omega) (by omega), s32_dig _ _ _ _ _ (by omega) (by omega) (by omega) (by omega)]
  clear e1 e2
  refine ⟨by omega, by omega, by omega, by omega⟩
end Go.Proofs.Ytedhmoihlfjbdaa
namespace Go.Proofs.Ytedhmoihlfjbdaa
open Go.RowKit
set_option linter.unusedVariables false
set_option linter.unusedSimpArgs false
theorem mand127 (y : Nat) (h : y < 4611686018427387904) : bits .and .i64 (y : Int) 127 = ((y % 128 : Nat) : Int) := by rw [i64_and127]; rfl
theorem rep85 : rep 85 8 = 6148914691236517205 := by decide
theorem rep51 : rep 51 8 = 3689348814741910323 := by decide
theorem rep15 : rep 15 8 = 1085102592571150095 := by decide
theorem and_lt_r {a b : Nat} (hb : b < 18446744073709551616) : a &&& b < 18446744073709551616 := Nat.lt_of_le_of_lt Nat.and_le_right hb
theorem wrapn {n : Nat} (h : n < 18446744073709551616) : IntKind.u64.wrap (n : Int) = (n : Int) := by rw [u64w]; omega
theorem fin3_small (x : Nat) (hx : x < 18446744073709551616) : s32 (s16 (s8 (G 8 x))) < 4611686018427387904 := by
  obtain ⟨c0, c1, c2, c3, c4, c5, c6, c7, h0, h1, h2, h3, h4, h5, h6, h7, e1, e2⟩ := G_sum x hx
  rw [e1, s8_dig _ _ _ _ _ _ _ _ h0, s16_dig _ _ _ _ _ _ _ _ (by omega) (by omega), s32_dig _ _ _ _ _ (by omega) (by omega) (by omega) (by omega)]
  clear e1 e2
  omega
theorem ones_any (x : Nat) (w : World) (h : x < 18446744073709551616) :
    Calls Try.prog 153 #[.int .u64 x] w fun e w' => e = .returned (.int .i64 (popN 64 x)) ∧ w' = w := by
  obtain ⟨q1, q2⟩ := swar 8 x
  obtain ⟨q3, q4, q5, q6⟩ := fin3_G x h
  have q7 := fin3_small x h
  rw [← q6]
  rw [← q2] at q3 q4 q5 q7 ⊢
  clear q1 q2 q6
  rw [rep85, rep51, rep15] at *
  have e1 : bits .and .u64 ((x : Int) / 2) 6148914691236517205 = ((x / 2 &&& 6148914691236517205 : Nat) : Int) := w_and (a := x / 2) (b := 6148914691236517205) (by omega) (by decide)
  have e2 : bits .and .u64 (x : Int) 6148914691236517205 = ((x &&& 6148914691236517205 : Nat) : Int) := w_and (b := 6148914691236517205) h (by decide)
  have b1 : x / 2 &&& 6148914691236517205 ≤ 6148914691236517205 := Nat.and_le_right
  have b2 : x &&& 6148914691236517205 ≤ 6148914691236517205 := Nat.and_le_right
  have e3 : IntKind.u64.wrap (((x / 2 &&& 6148914691236517205 : Nat) : Int) + ((x &&& 6148914691236517205 : Nat) : Int)) = (f1 6148914691236517205 x : Int) := by rw [← Int.natCast_add, wrapn (by omega)]; rfl
  have b3 : f1 6148914691236517205 x < 18446744073709551616 := by unfold f1; omega
  generalize f1 6148914691236517205 x = y1 at *
  generalize x / 2 &&& 6148914691236517205 = a1 at *
  generalize x &&& 6148914691236517205 = a2 at *
  have e4 : bits .and .u64 ((y1 : Int) / 4) 3689348814741910323 = ((y1 / 4 &&& 3689348814741910323 : Nat) : Int) := w_and (a := y1 / 4) (b := 3689348814741910323) (by omega) (by decide)
  have e5 : bits .and .u64 (y1 : Int) 3689348814741910323 = ((y1 &&& 3689348814741910323 : Nat) : Int) := w_and (b := 3689348814741910323) b3 (by decide)
  have b4 : y1 / 4 &&& 3689348814741910323 ≤ 3689348814741910323 := Nat.and_le_right
  have b5 : y1 &&& 3689348814741910323 ≤ 3689348814741910323 := Nat.and_le_right
  have e6 : IntKind.u64.wrap (((y1 / 4 &&& 3689348814741910323 : Nat) : Int) + ((y1 &&& 3689348814741910323 : Nat) : Int)) = (f2 3689348814741910323 y1 : Int) := by rw [← Int.natCast_add, wrapn (by omega)]; rfl
  have b6 : f2 3689348814741910323 y1 ≤ 7378697629483820646 := by unfold f2; omega
  generalize f2 3689348814741910323 y1 = y2 at *
  generalize y1 / 4 &&& 3689348814741910323 = a3 at *
  generalize y1 &&& 3689348814741910323 = a4 at *
  have e7 : IntKind.u64.wrap ((y2 : Int) / 16 + (y2 : Int)) = ((y2 / 16 + y2 : Nat) : Int) := by rw [← wrapn (n := y2 / 16 + y2) (by omega)]; rfl
  have e8 : bits .and .u64 ((y2 / 16 + y2 : Nat) : Int) 1085102592571150095 = (f3 1085102592571150095 y2 : Int) := w_and (a := y2 / 16 + y2) (b := 1085102592571150095) (by omega) (by decide)
  generalize f3 1085102592571150095 y2 = y3 at *
  generalize y2 / 16 + y2 = a5 at *
  have e9 : IntKind.u64.wrap ((y3 : Int) + (y3 : Int) / 256) = (s8 y3 : Int) := by rw [← wrapn q3]; rfl
  generalize s8 y3 = y4 at *
  have e10 : IntKind.u64.wrap ((y4 : Int) + (y4 : Int) / 65536) = (s16 y4 : Int) := by rw [← wrapn q4]; rfl
  generalize s16 y4 = y5 at *
  have e11 : IntKind.u64.wrap ((y5 : Int) + (y5 : Int) / 4294967296) = (s32 y5 : Int) := by rw [← wrapn q5]; rfl
  generalize s32 y5 = y6 at *
  have e12 := mand127 y6 q7
  generalize y6 % 128 = y7 at *
  clear b1 b2 b3 b4 b5 b6 q3 q4 q5
  go_enter Try.func153, Try.ntmps153
  go_wp2
  go_ret
  exact ⟨rfl, rfl⟩
def Mk.cnt (X : Nat) : Nat := popN 64 (Mk.H X) + popN 64 (Mk.L X)
theorem mCount_any (X : Nat) (hX : Mk.Ok X) (w : World) : Calls Try.prog 131 #[.agg #[.int .u64 (Mk.H X), .int .u64 (Mk.L X)]] w
    fun e w' => e = .returned (.int .i64 (Mk.cnt X)) ∧ Below w.heap.size w w' := by
  have h1 := fun w => ones_any (Mk.H X) w (Mk.H_lt hX)
  have h2 := fun w => ones_any (Mk.L X) w (Mk.L_lt X)
  have b1 := popN_le 64 (Mk.H X); have b2 := popN_le 64 (Mk.L X)
  unfold Mk.cnt
  generalize popN 64 (Mk.H X) = p at *
  generalize popN 64 (Mk.L X) = q at *
  generalize Mk.H X = H at *
  generalize Mk.L X = L at *
  have H1 := Lib.hid h1; have H2 := Lib.hid h2; clear h1 h2
  go_enter Try.func131, Try.ntmps131
  go_wp2
  go_region_held3 (fun w' => w'.cell? ⟨w.heap.size, 0, none⟩ = some (.int .u64 H) ∧ w'.cell? ⟨w.heap.size, 1, none⟩ = some (.int .u64 L)) (first | (simp [go_sem, *]; done) | (simp [go_sem]; done))
    (first
      | (go_at_call_of 153 (Value.int IntKind.u64 (H : Int)); refine (H1.out _).mono ?_; rintro e w' ⟨rfl, rfl⟩)
      | (go_at_call_of 153 (Value.int IntKind.u64 (L : Int)); refine (H2.out _).mono ?_; rintro e w' ⟨rfl, rfl⟩))
  go_wp2
  have ew : IntKind.i64.wrap ((p : Int) + (q : Int)) = ((p + q : Nat) : Int) := i64w (by omega) (by omega)
  exact bodyPost_ret (v := .int .i64 ((p + q : Nat) : Int)) (by simp [results, Try.results131, go_sem, ew]) rfl ⟨rfl, ((Below.refl _ w).alloc (Nat.le_refl _) _).drew⟩
def Mk.first (X : Nat) : Int := if Mk.H X = 0 ∧ Mk.L X = 0 then -1 else if Mk.H X = 0 then 128 - (Lib.bitLen (Mk.L X) : Int) else 64 - (Lib.bitLen (Mk.H X) : Int)
theorem mFirst_any (X : Nat) (hX : Mk.Ok X) (w : World) : Calls Try.prog 165 #[.agg #[.int .u64 (Mk.H X), .int .u64 (Mk.L X)]] w
    fun e w' => e = .returned (.int .i64 (Mk.first X)) ∧ Below w.heap.size w w' := by
  have h1 := fun w => lz_any (Mk.H X) w (Mk.H_lt hX)
  have h2 := fun w => lz_any (Mk.L X) w (Mk.L_lt X)
  have b1 : Lib.bitLen (Mk.H X) ≤ 64 := Lib.bitLen_le _ _ (Nat.le_refl _) (Mk.H_lt hX)
  have b2 : Lib.bitLen (Mk.L X) ≤ 64 := Lib.bitLen_le _ _ (Nat.le_refl _) (Mk.L_lt X)
  unfold Mk.first
  generalize Lib.bitLen (Mk.H X) = p at *
  generalize Lib.bitLen (Mk.L X) = q at *
  generalize Mk.H X = H at *
  generalize Mk.L X = L at *
  have H1 := Lib.hid h1; have H2 := Lib.hid h2; clear h1 h2
  have hB : Below w.heap.size w (w.alloc (Obj.cells #[.int .u64 H, .int .u64 L] 107)) := (Below.refl _ w).alloc (Nat.le_refl _) _
  have HB := Lib.hid hB; clear hB
  by_cases z1 : H = 0
  · subst z1
    by_cases z2 : L = 0
    · subst z2
      go_enter Try.func165, Try.ntmps165
      go_wp2_with fail
      go_ret
      exact ⟨by simp, HB.out⟩
    · go_enter Try.func165, Try.ntmps165
      go_wp2_with (go_at_call 172; refine (H2.out _).mono ?_; rintro e w' ⟨rfl, rfl⟩)
      go_ret
      refine ⟨?_, HB.out⟩
      simp [z2]
      omega
  · go_enter Try.func165, Try.ntmps165
    go_wp2_with (go_at_call 172; refine (H1.out _).mono ?_; rintro e w' ⟨rfl, rfl⟩)
    all_goals go_ret
    all_goals refine ⟨?_, HB.out⟩
    all_goals simp [z1]
end Go.Proofs.Ytedhmoihlfjbdaa
namespace Go.Proofs.Ytedhmoihlfjbdaa
open Go.RowKit
set_option linter.unusedVariables false
theorem pow_bit (k i : Nat) : (2 ^ k).testBit i = decide (k = i) := Nat.testBit_two_pow
theorem Mk.one_eq (i : Int) : Mk.one i = if 0 ≤ i ∧ i ≤ 127 then 2 ^ (127 - i).toNat else 0 := by
  have e : Mk.mk (sh (64 - max 0 (min (1 : Int) 64)).toNat 1) 0 = 2 ^ 127 := by decide
  unfold Mk.one Mk.lay
  rw [e]
  unfold Mk.move
  by_cases h : i < 0
  · rw [if_pos h, if_neg (by omega)]
    apply Nat.eq_of_testBit_eq; intro j
    rw [Mk.up_bit, pow_bit, Nat.zero_testBit]
    by_cases h1 : j < 128 <;> by_cases h2 : (-i).toNat ≤ j <;> simp [h1, h2]
    omega
  · rw [if_neg h]
    apply Nat.eq_of_testBit_eq; intro j
    rw [Mk.down_bit, pow_bit]
    by_cases h2 : i ≤ 127
    · rw [if_pos ⟨by omega, h2⟩, pow_bit]
      congr 1; apply propext; omega
    · rw [if_neg (by omega), Nat.zero_testBit]; simp; omega
theorem bitLen_lo (x : Nat) (h0 : x ≠ 0) (h : x < 18446744073709551616) : 1 ≤ Lib.bitLen x ∧ 2 ^ (Lib.bitLen x - 1) ≤ x ∧ x < 2 ^ Lib.bitLen x := Lib.bitLenAux_bounds 64 x h h0
/-- First names the highest bit. -/
theorem Mk.first_eq {X n : Nat} (h1 : 2 ^ n ≤ X) (h2 : X < 2 ^ (n + 1)) (hX : Mk.Ok X) : Mk.first X = 127 - (n : Int) := by
  have hn : n < 128 := by
    rcases Nat.lt_or_ge n 128 with h | h
    · exact h
    · have := Nat.pow_le_pow_right (n := 2) (by decide) h
      unfold Mk.Ok at hX; omega
  have hp : 0 < 2 ^ n := Nat.two_pow_pos n
  have uniq : ∀ a b x : Nat, 2 ^ a ≤ x → x < 2 ^ (a + 1) → 2 ^ b ≤ x → x < 2 ^ (b + 1) → a = b := fun a b x p q r s => by
    rcases Nat.lt_trichotomy a b with h | h | h
    · have := Nat.pow_le_pow_right (n := 2) (by decide) (show a + 1 ≤ b by omega); omega
    · exact h
    · have := Nat.pow_le_pow_right (n := 2) (by decide) (show b + 1 ≤ a by omega); omega
  unfold Mk.first
  have hz : ¬ (Mk.H X = 0 ∧ Mk.L X = 0) := fun h => by have := Mk.zero_iff.2 h; omega
  rw [if_neg hz]
  have eH : Mk.H X = X / 2 ^ 64 := by unfold Mk.H; rw [Nat.shiftRight_eq_div_pow]
  by_cases hH : Mk.H X = 0
  · rw [if_pos hH]
    have hlt : X < 2 ^ 64 := by rw [eH] at hH; omega
    have eL : Mk.L X = X := Nat.mod_eq_of_lt hlt
    rw [eL]
    obtain ⟨b1, b2, b3⟩ := bitLen_lo X (by omega) hlt
    have := uniq n (Lib.bitLen X - 1) X h1 h2 b2 (by rwa [Nat.sub_add_cancel b1])
    omega
  · rw [if_neg hH]
    obtain ⟨b1, b2, b3⟩ := bitLen_lo (Mk.H X) hH (Mk.H_lt hX)
    have q1 : 2 ^ (Lib.bitLen (Mk.H X) - 1 + 64) ≤ X := by
      rw [Nat.pow_add]; rw [eH] at b2 ⊢
      exact Nat.le_trans (Nat.mul_le_mul_right (2 ^ 64) b2) (Nat.div_mul_le_self X (2 ^ 64))
    have q2 : X < 2 ^ (Lib.bitLen (Mk.H X) - 1 + 64 + 1) := by
      rw [show Lib.bitLen (Mk.H X) - 1 + 64 + 1 = Lib.bitLen (Mk.H X) + 64 by omega, Nat.pow_add]; rw [eH] at b3 ⊢
      exact (Nat.div_lt_iff_lt_mul (Nat.two_pow_pos 64)).1 b3
    have := uniq n _ X h1 h2 q1 q2
    omega
def Mk.rest (X : Nat) : Nat := X ^^^ (X &&& Mk.one (Mk.first X))
/-- The bits below place n, from the top, by their numbers. -/
def Mk.dn : Nat → Nat → List Int | 0, _ => [] | n + 1, X => if X.testBit n then (127 - (n : Int)) :: Mk.dn n X else Mk.dn n X
def Mk.bits (X : Nat) : List Int := Mk.dn 128 X
theorem Mk.dn_congr {n X Y : Nat} (h : ∀ i, i < n → X.testBit i = Y.testBit i) : Mk.dn n X = Mk.dn n Y := by
  induction n with
  | zero => rfl
  | succ n ih => unfold Mk.dn; rw [h n (by omega), ih (fun i hi => h i (by omega))]
theorem Mk.dn_zero (n : Nat) : Mk.dn n 0 = [] := by
  induction n with
  | zero => rfl
  | succ n ih => unfold Mk.dn; simp [ih]
theorem Mk.bits_zero : Mk.bits 0 = [] := Mk.dn_zero 128
theorem Mk.rest_ok {X : Nat} (h : Mk.Ok X) : Mk.Ok (Mk.rest X) := Mk.xor_ok h (Mk.and_ok h)
theorem Mk.bits_step {X : Nat} (h0 : X ≠ 0) (hX : Mk.Ok X) : Mk.bits X = Mk.first X :: Mk.bits (Mk.rest X) ∧ 0 ≤ Mk.first X ∧ Mk.first X ≤ 127 ∧ X.testBit (127 - Mk.first X).toNat = true := by
  have l1 : 2 ^ X.log2 ≤ X := Nat.log2_self_le h0
  have l2 : X < 2 ^ (X.log2 + 1) := Nat.lt_log2_self
  generalize X.log2 = n at *
  have hn : n < 128 := by
    rcases Nat.lt_or_ge n 128 with h | h
    · exact h
    · have := Nat.pow_le_pow_right (n := 2) (by decide) h
      unfold Mk.Ok at hX; omega
  have hf := Mk.first_eq l1 l2 hX
  have hb : X.testBit n = true := by
    rw [Nat.testBit_eq_decide_div_mod_eq]
    have : X / 2 ^ n = 1 := by
      apply Nat.div_eq_of_lt_le <;> omega
    simp [this]
  have hone : Mk.one (Mk.first X) = 2 ^ n := by rw [hf, Mk.one_eq, if_pos (by omega)]; congr 1; omega
  have hr : ∀ i, (Mk.rest X).testBit i = (X.testBit i && !decide (n = i)) := fun i => by
    unfold Mk.rest; rw [hone, Nat.testBit_xor, Nat.testBit_and, pow_bit]
    cases X.testBit i <;> cases decide (n = i) <;> rfl
  have key : ∀ d m, m = n + 1 + d → Mk.dn m X = Mk.first X :: Mk.dn m (Mk.rest X) := fun d => by
    induction d with
    | zero =>
      rintro m rfl
      rw [show n + 1 + 0 = n + 1 from rfl]
      unfold Mk.dn
      rw [hb, hr n]
      simp only [if_true, decide_true, Bool.not_true, Bool.and_false, Bool.false_eq_true, if_false]
      rw [hf, Mk.dn_congr (X := X) (Y := Mk.rest X) (fun i hi => by rw [hr i]; simp; omega)]
    | succ d ih =>
      rintro m rfl
      rw [show n + 1 + (d + 1) = (n + 1 + d) + 1 by omega]
      have hz : X.testBit (n + 1 + d) = false := Nat.testBit_lt_two_pow (Nat.lt_of_lt_of_le l2 (Nat.pow_le_pow_right (by decide) (by omega)))
      unfold Mk.dn
      rw [hr, hz]
      simpa using ih _ rfl
  refine ⟨?_, by omega, by omega, ?_⟩
  · unfold Mk.bits; exact key (127 - n) 128 (by omega)
  · rw [hf, show (127 - (127 - (n : Int))).toNat = n by omega]; exact hb
theorem Mk.dn_len (n X : Nat) : (Mk.dn n X).length ≤ n := by
  induction n with
  | zero => exact Nat.le_refl _
  | succ n ih =>
    unfold Mk.dn; split
    · simp only [List.length_cons]; omega
    · omega
theorem Mk.bits_len (X : Nat) : (Mk.bits X).length ≤ 128 := Mk.dn_len 128 X
end Go.Proofs.Ytedhmoihlfjbdaa

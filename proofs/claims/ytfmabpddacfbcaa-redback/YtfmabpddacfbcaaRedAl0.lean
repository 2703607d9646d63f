
/-
  confluxlaw06.alive, small.
-/
import Derived.Test.YtfmabpddacfbcaaRedWrap
import Derived.Test.YtfmabpddacfbcaaRedOlder
namespace Go.Proofs.Ytfmabpddacfbcaa
open Go.RowKit Go.Shelf
set_option linter.unusedVariables false
def rl6 : List Int := [225, 0, 8, 2, 96, 65, 66, 67]
theorem rl6_ok : Str.Ok rl6 := ok_lit rfl
theorem rl6_good : Good rl6 1 where
  hd := ⟨by decide, by decide, by decide, fun j hj => by
    obtain rfl : j = 0 := by omega
    decide⟩
  fit := by decide
theorem rl6_p0 : ppt rl6 0 = 97 := by decide
theorem rl6_p1 : ppt rl6 1 = 96 := by decide
theorem rl6_o0 : pof rl6 0 = 2 := by decide
theorem rl6_o1 : pof rl6 1 = 0 := by decide
theorem rl6_d0 : pdat rl6 1 0 = [65, 66] := by decide
theorem rl6_d1 : pdat rl6 1 1 = [67] := by decide
theorem rl6_code : rwcode 2 (ppt rl6) (pof rl6) (pdat rl6 1) = 0 := by decide
theorem rl6_bytes : rwbytes 2 (ppt rl6) (pof rl6) (pdat rl6 1) = rl6 := by
  unfold rwbytes; rw [if_pos rl6_code]; exact psd_back rl6_good rl6_ok
theorem rl6_one : one1 96 [67] = [96, 67] := by decide
theorem nil_bad : HBad [] 20 0 := ⟨by decide, fun j hj => by omega, .inl ⟨rfl, .inl (by decide)⟩⟩
theorem rl6_add : Ser.add32 10 (-2) = 8 := by decide
def p6 : Pk := ⟨false, 100, 5, 10, 3, [], false, 0, [], rl6, []⟩
def q6 : Pk := ⟨false, 96, 5, 10, 3, [], false, 0, [], [67], []⟩
def x6 : Pk := ⟨false, 100, 5, 10, 3, [], false, 0, [], [96, 67], []⟩
theorem Own.cap6 {W : World} {base : Nat} {a : Option Addr} {n c : Nat} {l : List Int} (h : Own W base a n c l) : n ≤ c := by
  rcases h.row.2 with ⟨hv, h0⟩ | ⟨g, cap, cur, hv, _, _, hnc, _⟩
  · omega
  · simp only [Value.slice.injEq, true_and] at hv; omega
theorem bel_trans {a b c : World} (h : Below a.heap.size a b) (k : Below b.heap.size b c) : Below a.heap.size a c := h.trans (k.mono h.size)
theorem bel_alloc (a : World) (o : Obj) : Below a.heap.size a (a.alloc o) := (Below.refl _ a).alloc (Nat.le_refl _) _
theorem a6_parse (a : Option Addr) (W : World) (hb : BAt W a 8 rl6) : Calls Try.prog 11 #[.slice a 8 8] W (PBk 1 rl6 W) := rparse_ok a 8 8 rl6 1 W hb (Nat.le_refl _) rl6_good (by decide)
theorem a6_parse0 (W : World) : Calls Try.prog 11 #[.slice none 0 0] W (ReadFail (.slice none 0 0) 20 W) := rparse_no none 0 0 [] 0 20 W (BAt.none W) (Nat.le_refl _) nil_bad (by decide)
theorem a6_write (a : Option Addr) (c : Nat) (A : Nat → Option Addr) (C : Nat → Nat) (W : World) (hb : BkAt W a 2 (ppt rl6) (pof rl6) A C (pdat rl6 1)) (hc : 2 ≤ c) : Calls Try.prog 7 #[.slice a 2 c] W (WrOut 0 rl6 W) := by
  have := redw_any a 2 c (ppt rl6) (pof rl6) A C (pdat rl6 1) W hb (by decide) hc (fun i hi => by
    have : i = 0 ∨ i = 1 := by omega
    rcases this with rfl | rfl
    · rw [rl6_d0]; decide
    · rw [rl6_d1]; decide)
  rwa [rl6_code, rl6_bytes] at this
theorem a6_write0 (W : World) : Calls Try.prog 7 #[.slice none 0 0] W (WrOut 4 [] W) :=
  redw_any none 0 0 (fun _ => 0) (fun _ => 0) (fun _ => none) (fun _ => 0) (fun _ => []) W ⟨0, 0, fun i hi => by omega⟩ (by decide) (Nat.le_refl _) (fun i hi => by omega)
theorem sm6 (b : Option Addr) : Sm ⟨none, 0, 0, none, 0, 0, b, 8, 8, none, 0, 0⟩ := ⟨Nat.zero_le _, Nat.zero_le _, (by omega : (8 : Nat) ≤ 100000), Nat.zero_le _⟩
theorem a6_prim (b : Option Addr) (W : World) (hb : BAt W b 8 rl6) : Calls Try.prog 15 #[.agg #[.bool false, .int .i64 100, .int .u16 5, .int .u32 10, .int .u32 3, .slice none 0 0, .bool false, .int .u16 0, .slice none 0 0, .slice b 8 8, .slice none 0 0]] W (PrOut q6 0 W) := by
  have := primary_ok p6 ⟨none, 0, 0, none, 0, 0, b, 8, 8, none, 0, 0⟩ 1 W ⟨(LIn.nil W 0).1, BAt.none W, hb, BAt.none W, by decide, by decide, by decide, by decide⟩ (sm6 b) (Nat.le_refl _) rl6_good
  rwa [show ({ p6 with pt := ppt p6.payload 1, payload := pdat p6.payload 1 1 } : Pk) = q6 from by show Pk.mk _ _ _ _ _ _ _ _ _ _ _ = _; rw [show ppt p6.payload 1 = 96 from rl6_p1, show pdat p6.payload 1 1 = [67] from rl6_d1]; rfl] at this
theorem a6_wrap (s : Pl) (W : World) (hp : PkOwn W 0 q6 s) (hs : Sm s) : Calls Try.prog 13 #[.agg (pkc q6 s), .int .i64 100] W (PrOut x6 0 W) := by
  have hn : s.np = 1 := hp.pay.bat.len.symm
  have := wrap_ok q6 s 100 W hp.in.at hs hp.pay.cap6 (by decide) (by decide) (by omega)
  rwa [show ({ q6 with pt := 100, payload := one1 q6.pt q6.payload } : Pk) = x6 from by show Pk.mk _ _ _ _ _ _ _ _ _ _ _ = _; rw [show one1 q6.pt q6.payload = [96, 67] from rl6_one]; rfl] at this
theorem a6_older (b : Option Addr) (W : World) (hb : BAt W b 8 rl6) : Calls Try.prog 16 #[.agg #[.bool false, .int .i64 100, .int .u16 5, .int .u32 10, .int .u32 3, .slice none 0 0, .bool false, .int .u16 0, .slice none 0 0, .slice b 8 8, .slice none 0 0]] W (OlOut 1 rl6 10 3 W) :=
  older_ok p6 ⟨none, 0, 0, none, 0, 0, b, 8, 8, none, 0, 0⟩ 1 W ⟨(LIn.nil W 0).1, BAt.none W, hb, BAt.none W, by decide, by decide, by decide, by decide⟩ (sm6 b) (Nat.le_refl _) rl6_good (fun i hi => by
    have : i = 0 ∨ i = 1 := by omega
    rcases this with rfl | rfl
    · show 0 ≤ pof rl6 0 ∧ _; rw [show pof p6.payload 0 = 2 from rl6_o0, rl6_o0]; decide
    · show 0 ≤ pof rl6 1 ∧ _; rw [show pof p6.payload 1 = 0 from rl6_o1, rl6_o1]; decide)
end Go.Proofs.Ytfmabpddacfbcaa

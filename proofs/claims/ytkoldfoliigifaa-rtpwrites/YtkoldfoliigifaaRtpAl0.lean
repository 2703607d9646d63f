
/-
  The examples of layer 5: the calls that alive makes, at their numbers.
-/
import Derived.Test.YtkoldfoliigifaaRtpSame2
namespace Go.Proofs.Ytkoldfoliigifaa
open Go.RowKit Go.Shelf
set_option linter.unusedVariables false
def alB : List Int := [128, 96, 0, 1, 0, 0, 0, 2, 0, 0, 0, 3, 65]
def alP : Pk := ⟨false, 96, 1, 2, 3, [], false, 0, [], [65], []⟩
def alQ : Pk := ⟨false, 96, 1, 2, 3, [], false, 0, [], [66], []⟩
theorem al_code : pcodeF 13 alB = 0 := by decide
theorem al_pk : ppk alB = alP := by rfl
theorem al_c40 : pcodeF 1 [64] = 21 := by decide
theorem al_c80 : pcodeF 1 [128] = 20 := by decide
theorem al_c0 : pcodeF 0 [] = 20 := by decide
theorem al_w (ac ae ap ad : Option Addr) (cc ce cp cd : Nat) : wcode alP ⟨ac, 0, cc, ae, 0, ce, ap, 1, cp, ad, 0, cd⟩ = 0 ∧ wbytes alP ⟨ac, 0, cc, ae, 0, ce, ap, 1, cp, ad, 0, cd⟩ = alB ∧ sz alP ⟨ac, 0, cc, ae, 0, ce, ap, 1, cp, ad, 0, cd⟩ = 13 := by
  have hc : wcode alP ⟨ac, 0, cc, ae, 0, ce, ap, 1, cp, ad, 0, cd⟩ = 0 := rfl
  refine ⟨hc, ?_, rfl⟩
  unfold wbytes
  rw [if_pos hc]
  simp [enc, hd0, hd1, alP, alB, longs, Big1, Big2, Big4]
theorem al_sm (ac ae ap ad : Option Addr) (cc ce cp cd : Nat) : Sm ⟨ac, 0, cc, ae, 0, ce, ap, 1, cp, ad, 0, cd⟩ := ⟨Nat.zero_le _, Nat.zero_le _, (by omega : (1 : Nat) ≤ 100000), Nat.zero_le _⟩
theorem al_pq : pkEq alP alQ = false := by decide
theorem alB_ok : Str.Ok alB := ok_lit rfl
def zP : Pk := ⟨false, 128, 0, 0, 0, [], false, 0, [], [], []⟩
def zS : Pl := ⟨none, 0, 0, none, 0, 0, none, 0, 0, none, 0, 0⟩
theorem zP_at (W : World) : PkAt W zP zS := ⟨(LIn.nil W 0).1, BAt.none W, BAt.none W, BAt.none W, by decide, by decide, by decide, by decide⟩
theorem al_wz : wcode zP zS = 1 ∧ wbytes zP zS = [] := ⟨rfl, rfl⟩
theorem al_parse (a : Option Addr) (c : Nat) (W : World) (hb : BAt W a 13 alB) (hc : 13 ≤ c) : Calls Try.prog 14 #[.slice a 13 c] W (fun e w' => ∃ ac cc ae ce ap cp ad cd, e = .returned (.tuple #[.agg (pkc alP ⟨ac, 0, cc, ae, 0, ce, ap, 1, cp, ad, 0, cd⟩), .int .i64 0]) ∧ PkIn w' W.heap.size alP ⟨ac, 0, cc, ae, 0, ce, ap, 1, cp, ad, 0, cd⟩ ∧ Below W.heap.size W w') := by
  refine (parse5_any a 13 c alB W hb hc).mono fun e w' h => ?_
  obtain ⟨⟨ac, nc, cc, ae, ne, ce, ap, np, cp, ad, nd, cd⟩, rfl, hp, hB⟩ := h.2 al_code
  rw [al_pk] at *
  obtain rfl : 0 = nc := hp.csrc.1.1
  obtain rfl : 0 = ne := hp.ext.1.len
  obtain rfl : 1 = np := hp.pay.1.len
  obtain rfl : 0 = nd := hp.pad.1.len
  exact ⟨ac, cc, ae, ce, ap, cp, ad, cd, rfl, hp, hB⟩
theorem al_parse1 (a : Option Addr) (c : Nat) (x f : Int) (W : World) (hb : BAt W a 1 [x]) (hc : 1 ≤ c) (hf : pcodeF 1 [x] = f) (h0 : f ≠ 0) : Calls Try.prog 14 #[.slice a 1 c] W (ValB (.tuple #[.agg #[.bool false, .int .i64 0, .int .u16 0, .int .u32 0, .int .u32 0, .slice none 0 0, .bool false, .int .u16 0, .slice none 0 0, .slice none 0 0, .slice none 0 0], .int .i64 f]) W) := by
  refine (parse5_any a 1 c [x] W hb hc).mono fun e w' h => ?_
  rw [hf] at h
  exact h.1 h0
theorem al_seq (a : Option Addr) (c : Nat) (W : World) (hb : BAt W a 13 alB) (hc : 13 ≤ c) : Calls Try.prog 15 #[.slice a 13 c] W (ValB (.tuple #[.int .u16 1, .bool true]) W) := by
  have := seq5_any a 13 c alB W hb hc
  unfold out_Seq at this; rwa [if_pos al_code, al_pk] at this
theorem al_ssrc (a : Option Addr) (c : Nat) (W : World) (hb : BAt W a 13 alB) (hc : 13 ≤ c) : Calls Try.prog 16 #[.slice a 13 c] W (ValB (.tuple #[.int .u32 3, .bool true]) W) := by
  have := ssrc5_any a 13 c alB W hb hc
  unfold out_SSRC at this; rwa [if_pos al_code, al_pk] at this
theorem al_pt (a : Option Addr) (c : Nat) (W : World) (hb : BAt W a 13 alB) (hc : 13 ≤ c) : Calls Try.prog 17 #[.slice a 13 c] W (ValB (.tuple #[.int .i64 96, .bool true]) W) := by
  have := pt5_any a 13 c alB W hb hc
  unfold out_PT at this; rwa [if_pos al_code, al_pk] at this
theorem al_pt0 (W : World) : Calls Try.prog 17 #[.slice none 0 0] W (ValB (.tuple #[.int .i64 0, .bool false]) W) := by
  have := pt5_any none 0 0 [] W (BAt.none W) (Nat.le_refl _)
  unfold out_PT at this; rwa [if_neg (by rw [al_c0]; decide)] at this
theorem al_write (ac ae ap ad : Option Addr) (cc ce cp cd : Nat) (W : World) (hp : PkAt W alP ⟨ac, 0, cc, ae, 0, ce, ap, 1, cp, ad, 0, cd⟩) : Calls Try.prog 6 #[.agg (pkc alP ⟨ac, 0, cc, ae, 0, ce, ap, 1, cp, ad, 0, cd⟩)] W (WrOut 0 alB W) := by
  have := write5_any alP _ W hp (al_sm ac ae ap ad cc ce cp cd)
  obtain ⟨e1, e2, _⟩ := al_w ac ae ap ad cc ce cp cd
  rwa [e1, e2] at this
theorem al_writez (W : World) : Calls Try.prog 6 #[.agg (pkc zP zS)] W (WrOut 1 [] W) := write5_any zP zS W (zP_at W) ⟨by decide, by decide, by decide, by decide⟩
end Go.Proofs.Ytkoldfoliigifaa

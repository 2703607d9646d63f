
/-
  rtp.paddingSize, splitPadding; the state of rtp.readPacket.
-/
import Derived.Test.YtpannhbmelcpfaaRtpParse0
namespace Go.Proofs.Ytpannhbmelcpfaa
open Go.RowKit Go.Shelf
set_option linter.unusedVariables false
theorem psize_any (a : Option Addr) (n c : Nat) (l : List Int) (w : World) (hb : BAt w a n l) :
    Calls Try.prog 136 #[.slice a n c] w (SameV (.int .i64 (psize l : Nat)) w) := by
  have hlen := hb.len
  have hlim := hb.lim
  have hv : psize l = if n = 0 then 0 else if (n : Int) < l.getD (n - 1) 0 then 0 else (l.getD (n - 1) 0).toNat := by unfold psize; rw [hlen]
  rw [hv]
  by_cases h0 : n = 0
  · subst h0
    go_enter Try.func136, Try.ntmps136
    go_wp2
    go_ret
    exact ⟨rfl, rfl⟩
  · have hz : ((n : Int) == 0) = false := by rw [beq_eq_false_iff_ne]; omega
    obtain ⟨b, o, hr⟩ := hb.row
    obtain ⟨rfl, _, d, hd⟩ := hr (n - 1) (by omega)
    have hi : (n : Int) - 1 = ((n - 1 : Nat) : Int) := by omega
    have hi2 : ((n - 1 : Nat) : Int) < (n : Int) := by omega
    rw [if_neg h0]
    clear hr hv hlen hb
    generalize l.getD (n - 1) 0 = x at d hd ⊢
    generalize n - 1 = k at d hi hi2
    have hx : IntKind.i64.wrap x = x := by rw [IntKind.wrap_i64]; omega
    by_cases hlt : (n : Int) < x
    · rw [if_pos hlt]
      go_enter Try.func136, Try.ntmps136
      go_wp2
      go_ret
      exact ⟨rfl, rfl⟩
    · rw [if_neg hlt]
      have hn : ((x.toNat : Nat) : Int) = x := by omega
      rw [hn]
      clear hn
      go_enter Try.func136, Try.ntmps136
      go_wp2
      go_ret
      exact ⟨rfl, rfl⟩
/-- The state of readPacket: the packet so far is cs, in block P. -/
structure RS (w W : World) (R U P : Nat) (a : Option Addr) (n c : Nat) (l : List Int) (cs : Array Value) : Prop where
  rd : RdAt W R U a n c l
  pk : W.heap[P]? = some (.cells cs 27 (0, 0))
  bx : W.heap[w.heap.size]? = some (.cells #[.bool false, .int .i64 0, .int .u16 0, .int .u32 0, .int .u32 0, .slice none 0 0, .bool false, .int .u16 0, .slice none 0 0, .slice none 0 0, .slice none 0 0] 27 (0, 0))
  ltP : w.heap.size < P
  ltR : R < w.heap.size
  ltU : U < w.heap.size
  old : 0 < n → ∀ x, a = some x → x.block < w.heap.size
  keep : Keep2 w W R (some U)
theorem RS.zP {w W : World} {R U P : Nat} {a : Option Addr} {n c : Nat} {l : List Int} {cs : Array Value} (h : RS w W R U P a n c l cs) : P < W.heap.size := (Array.getElem?_eq_some_iff.1 h.pk).1
theorem RS.c {w W : World} {R U P : Nat} {a : Option Addr} {n c : Nat} {l : List Int} {cs : Array Value} (h : RS w W R U P a n c l cs) (i : Nat) : W.cell? ⟨P, i, none⟩ = cs[i]? := cell_of_row W P i _ _ _ h.pk
theorem RS.f {w W : World} {R U P : Nat} {a : Option Addr} {n c : Nat} {l : List Int} {cs : Array Value} (h : RS w W R U P a n c l cs) (i : Nat) : W.frozen? ⟨P, i, none⟩ = false := frozen_of_row W P i _ _ h.pk
theorem restA_old {a : Option Addr} {n c k B : Nat} (h : 0 < n → ∀ x, a = some x → x.block < B) : 0 < n - k → ∀ x, restA a c k = some x → x.block < B := fun h0 x hx => by
  obtain ⟨y, hy, e⟩ := restA_blk hx
  rw [e]; exact h (by omega) y hy
theorem RS.took {w W W' : World} {R U P : Nat} {a : Option Addr} {n c : Nat} {l : List Int} {cs : Array Value} (h : RS w W R U P a n c l cs) {k : Nat} (hr : RdAt W' R U (restA a c k) (n - k) (c - k) (l.drop k)) (hg : W.grownBy W' (some R)) : RS w W' R U P (restA a c k) (n - k) (c - k) (l.drop k) cs :=
  ⟨hr, (hg.block P h.zP (by have := h.ltP; have := h.ltR; simp; omega)).trans h.pk, (hg.block _ (by have := h.zP; have := h.ltP; omega) (by have := h.ltR; simp; omega)).trans h.bx, h.ltP, h.ltR, h.ltU, restA_old h.old, keep2_trans h.keep (took_keep hg U)⟩
theorem RS.store {w W : World} {R U P : Nat} {a : Option Addr} {n c : Nat} {l : List Int} {cs : Array Value} (h : RS w W R U P a n c l cs) (i : Nat) (v : Value) : RS w (W.setCell ⟨P, i, none⟩ v) R U P a n c l (cs.setIfInBounds i v) := by
  have o : ∀ k, k ≠ P → (W.setCell ⟨P, i, none⟩ v).heap[k]? = W.heap[k]? := fun k hk => Below.heap_setCell W _ _ k hk
  have h1 := h.ltP; have h2 := h.ltR; have h3 := h.ltU
  refine ⟨⟨(o R (by omega)).trans h.rd.rd, (o U (by omega)).trans h.rd.run, h.rd.ne, h.rd.row.same (by simp) fun x h0 hx hl => o _ (by have := h.old h0 x hx; omega), h.rd.cap, h.rd.far⟩, heap_setCell_same W P i _ _ _ h.pk, (o _ (by omega)).trans h.bx, h1, h2, h3, h.old, ?_⟩
  exact ⟨h.keep.os, h.keep.tape, h.keep.output, by simpa using h.keep.size, fun k hk e1 e2 => (o k (by omega)).trans (h.keep.block k hk e1 e2)⟩
theorem RS.below {w W W' : World} {R U P : Nat} {a : Option Addr} {n c : Nat} {l : List Int} {cs : Array Value} (h : RS w W R U P a n c l cs) (hb : Below W.heap.size W W') : RS w W' R U P a n c l cs :=
  ⟨h.rd.below hb, (hb.block P h.zP).trans h.pk, (hb.block _ (by have := h.zP; have := h.ltP; omega)).trans h.bx, h.ltP, h.ltR, h.ltU, h.old,
    ⟨hb.os.trans h.keep.os, hb.tape.trans h.keep.tape, hb.output.trans h.keep.output, Nat.le_trans h.keep.size hb.size, fun k hk e1 e2 => (hb.block k (by have := h.keep.size; omega)).trans (h.keep.block k hk e1 e2)⟩⟩
theorem RS.fail {w W w' : World} {R U P : Nat} {a : Option Addr} {n c : Nat} {l : List Int} {cs : Array Value} (h : RS w W R U P a n c l cs) {f : Int} {e : Ending} (hf : FailPost U f W e w') : ParseFail R U f w e w' :=
  ⟨hf.1, hf.2.1, keep2_trans h.keep (fail_keep hf.2.2.1 R)⟩
/-- How readPacket ends. -/
def RPost (R U n : Nat) (l : List Int) (w : World) (e : Ending) (w' : World) : Prop :=
  (pcode n l ≠ 0 → ParseFail R U (pcode n l) w e w') ∧ (pcode n l = 0 → ParseOk R U 0 [] (QPk w.heap.size (ppk l)) w e w')
theorem RPost.no {R U n : Nat} {l : List Int} {w w' : World} {e : Ending} {f : Int} (hc : pcode n l = f) (hf : f ≠ 0) (h : ParseFail R U f w e w') : RPost R U n l w e w' := by
  unfold RPost; rw [hc]; exact ⟨fun _ => h, fun e => absurd e hf⟩
theorem RPost.yes {R U n : Nat} {l : List Int} {w w' : World} {e : Ending} (hc : pcode n l = 0) (h : ParseOk R U 0 [] (QPk w.heap.size (ppk l)) w e w') : RPost R U n l w e w' := by
  unfold RPost; exact ⟨fun e => absurd hc e, fun _ => h⟩
theorem pc0 {n : Nat} {l : List Int} (h : n = 0) : pcode n l = 20 := by unfold pcode; rw [if_pos h]
theorem pcv {n : Nat} {l : List Int} (h : n ≠ 0) (hv : l.getD 0 0 / 64 ≠ 2) : pcode n l = 21 := by unfold pcode; rw [if_neg h, if_pos hv]
theorem pc1 {n : Nat} {l : List Int} (h : n ≠ 0) (hv : l.getD 0 0 / 64 = 2) (h1 : n < pat1 l) : pcode n l = 20 := by unfold pcode; rw [if_neg h, if_neg (by simpa using hv), if_pos h1]
theorem pc2 {n : Nat} {l : List Int} (h : n ≠ 0) (hv : l.getD 0 0 / 64 = 2) (hx : pext l = true) (h1 : n < pat1 l + 4) : pcode n l = 20 := by
  unfold pcode; rw [if_neg h, if_neg (by simpa using hv)]
  by_cases h2 : n < pat1 l
  · rw [if_pos h2]
  · rw [if_neg h2, if_pos ⟨hx, h1⟩]
theorem pc3 {n : Nat} {l : List Int} (h : n ≠ 0) (hv : l.getD 0 0 / 64 = 2) (h1 : n < pat2 l) : pcode n l = 20 := by
  unfold pcode; rw [if_neg h, if_neg (by simpa using hv)]
  by_cases h2 : n < pat1 l
  · rw [if_pos h2]
  · by_cases h3 : pext l = true ∧ n < pat1 l + 4
    · rw [if_neg h2, if_pos h3]
    · rw [if_neg h2, if_neg h3, if_pos h1]
theorem pc_end {n : Nat} {l : List Int} (h : n ≠ 0) (hv : l.getD 0 0 / 64 = 2) (h1 : ¬ n < pat1 l) (h2 : pext l = true → ¬ n < pat1 l + 4) (h3 : ¬ n < pat2 l) : pcode n l = if ppad l = true ∧ psize (ptail l) = 0 then 21 else 0 := by
  unfold pcode; rw [if_neg h, if_neg (by simpa using hv), if_neg h1, if_neg (fun e => h2 e.1 e.2), if_neg h3]
end Go.Proofs.Ytpannhbmelcpfaa

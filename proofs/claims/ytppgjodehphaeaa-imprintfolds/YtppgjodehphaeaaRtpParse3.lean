
/-
  rtp.readPacket: bits; one more CSRC identifier.
-/
import Derived.Test.YtppgjodehphaeaaRtpParse2
namespace Go.Proofs.Ytppgjodehphaeaa
open Go.RowKit Go.Shelf
set_option linter.unusedVariables false
theorem bits_byte (x : Int) (h0 : 0 ≤ x) (h1 : x < 256) : bits .and .i64 x 128 = (if 128 ≤ x then 128 else 0) ∧ bits .and .i64 x 127 = x % 128 ∧ bits .and .i64 x 15 = x % 16 ∧ bits .and .i64 x 16 = (if x / 16 % 2 = 1 then 16 else 0) ∧ bits .and .i64 x 32 = (if x / 32 % 2 = 1 then 32 else 0) := by
  have : ∀ n : Fin 256, bits .and .i64 ((n : Nat) : Int) 128 = (if 128 ≤ ((n : Nat) : Int) then 128 else 0) ∧ bits .and .i64 ((n : Nat) : Int) 127 = ((n : Nat) : Int) % 128 ∧ bits .and .i64 ((n : Nat) : Int) 15 = ((n : Nat) : Int) % 16 ∧ bits .and .i64 ((n : Nat) : Int) 16 = (if ((n : Nat) : Int) / 16 % 2 = 1 then 16 else 0) ∧ bits .and .i64 ((n : Nat) : Int) 32 = (if ((n : Nat) : Int) / 32 % 2 = 1 then 32 else 0) := by decide +kernel
  obtain ⟨n, rfl⟩ := Int.eq_ofNat_of_zero_le h0
  exact this ⟨n, by omega⟩
theorem pcsrc_succ (l : List Int) (k : Nat) : pcsrc l (k + 1) = pcsrc l k ++ [Num ((l.drop (12 + 4 * k)).take 4)] := by simp [pcsrc, List.range_succ]
/-- The state at the head of the loop over CSRC identifiers. -/
structure RL (w W : World) (R U P : Nat) (n : Nat) (l : List Int) (m : Bool) (pt sq ts ss : Int) (i : Nat) (ac : Option Addr) (cc : Nat) (a' : Option Addr) (c' : Nat) : Prop where
  rs : RS w W R U P a' (n - 12 - 4 * i) c' (l.drop (12 + 4 * i)) #[.bool m, .int .i64 pt, .int .u16 sq, .int .u32 ts, .int .u32 ss, .slice ac i cc, .bool false, .int .u16 0, .slice none 0 0, .slice none 0 0, .slice none 0 0]
  own : OwnL W (P + 1) ac i cc (pcsrc l i)
theorem RS.belowP {w W W' : World} {R U P : Nat} {a : Option Addr} {n c : Nat} {l : List Int} {cs : Array Value} (h : RS w W R U P a n c l cs) (hb2 : Below (P + 1) W W') : RS w W' R U P a n c l cs := by
  have h1 := h.ltP; have h2 := h.ltR; have h3 := h.ltU; have hz := hb2.size; have hp := h.zP
  exact ⟨⟨(hb2.block R (by omega)).trans h.rd.rd, (hb2.block U (by omega)).trans h.rd.run, h.rd.ne, h.rd.row.same hz fun x h0 hx hl => hb2.block _ (by have := h.old h0 x hx; omega), h.rd.cap, h.rd.far⟩,
    (hb2.block P (by omega)).trans h.pk, (hb2.block _ (by omega)).trans h.bx, h1, h2, h3, h.old,
    ⟨hb2.os.trans h.keep.os, hb2.tape.trans h.keep.tape, hb2.output.trans h.keep.output, Nat.le_trans h.keep.size hz, fun k hk e1 e2 => (hb2.block k (by omega)).trans (h.keep.block k hk e1 e2)⟩⟩
/-- Behind Long: the append and its store. -/
theorem RL.next {w W W1 : World} {R U P n : Nat} {l : List Int} {m : Bool} {pt sq ts ss : Int} {i : Nat} {ac : Option Addr} {cc : Nat} {a' : Option Addr} {c' : Nat} (h : RL w W R U P n l m pt sq ts ss i ac cc a' c') (hl : l.length = n) (hok : Str.Ok l) (hi : 4 ≤ n - 12 - 4 * i) (hi2 : i ≤ 100)
    {W0 : World} (hd : Above 0 W W0 ∧ W0.heap.size = W.heap.size) (hr : RdAt W1 R U (restA a' c' 4) (n - 12 - 4 * i - 4) (c' - 4) ((l.drop (12 + 4 * i)).drop 4)) (hg : W0.grownBy W1 (some R)) (hk : W0.os = W.os ∧ W0.tape = W.tape ∧ W0.output = W.output) (ty : TypeId) :
    ∃ a2 c2 w2, (Builtin.append_ #[64, 64] ty #[.slice ac i cc, .slice (some ⟨W1.heap.size, 0, none⟩) 1 1]).run Try.prog (W1.alloc (.cells #[.int .u32 (Num ((l.drop (12 + 4 * i)).take 4))] 40)) = .ok (.slice a2 (i + 1) c2) w2 ∧
      w2.cell? ⟨P, 5, none⟩ = some (.slice ac i cc) ∧ w2.frozen? ⟨P, 5, none⟩ = false ∧ RL w (w2.setCell ⟨P, 5, none⟩ (.slice a2 (i + 1) c2)) R U P n l m pt sq ts ss (i + 1) a2 c2 (restA a' c' 4) (c' - 4) := by
  have hg' : W.grownBy W1 (some R) := ⟨hg.os.trans hk.1, hg.tape.trans hk.2.1, hg.output.trans hk.2.2, by have := hg.size; omega, fun k h1 h2 => (hg.block k (by omega) h2).trans (hd.1.2 k (Nat.zero_le _) h1)⟩
  have hs1 := h.rs.took (k := 4) hr hg'
  have ho1 : OwnL W1 (P + 1) ac i cc (pcsrc l i) := h.own.kept hg' (fun y hy e => by
    have := (h.own.blk y hy).1; have := h.rs.ltP; have := h.rs.ltR
    cases e; omega)
  have hx := num_lt (hok.drop (12 + 4 * i)) 4 (by rw [List.length_drop]; omega) 4294967296 rfl
  obtain ⟨a2, c2, w2, hrun, ho2, hb2⟩ := append_long W1 ty (P + 1) ac i cc _ ho1 _ hx (by omega) (by have := hs1.zP; omega)
  have hs2 := hs1.belowP hb2
  refine ⟨a2, c2, w2, hrun, by rw [hs2.c]; rfl, hs2.f 5, ⟨?_, ?_⟩⟩
  · have := hs2.store 5 (.slice a2 (i + 1) c2)
    rw [List.drop_drop, show n - 12 - 4 * i - 4 = n - 12 - 4 * (i + 1) from by omega, show 12 + 4 * i + 4 = 12 + 4 * (i + 1) from by omega] at this
    exact this
  · rw [pcsrc_succ]
    refine ho2.kept (r := some P) ⟨rfl, rfl, rfl, by simp, fun k _ hk => Below.heap_setCell w2 _ _ k (fun e => hk (by rw [e]))⟩ (fun y hy e => ?_)
    have := (ho2.blk y hy).1
    cases e; omega
theorem RS.final {w W W2 : World} {R U P : Nat} {a : Option Addr} {n c : Nat} {l : List Int} {cs cs2 : Array Value} (h : RS w W R U P a n c l cs) (hp : Put W W2 w.heap.size cs2 66) : RdAt W2 R U a n c l ∧ Keep2 w W2 R (some U) := by
  have h1 := h.ltP; have h2 := h.ltR; have h3 := h.ltU
  have o : ∀ k, k < w.heap.size → W2.heap[k]? = W.heap[k]? := fun k hk => hp.grown.block k (by have := h.keep.size; omega) (by simp; omega)
  refine ⟨⟨(o R h2).trans h.rd.rd, (o U h3).trans h.rd.run, h.rd.ne, h.rd.row.same (by rw [hp.size]; exact Nat.le_refl _) fun x h0 hx hl => o _ (h.old h0 x hx), h.rd.cap, h.rd.far⟩, ?_⟩
  exact ⟨hp.grown.os.trans h.keep.os, hp.grown.tape.trans h.keep.tape, hp.grown.output.trans h.keep.output, by rw [hp.size]; exact h.keep.size, fun k hk e1 e2 => (o k hk).trans (h.keep.block k hk e1 e2)⟩
theorem RS.drewN {w W : World} {R U P : Nat} {a : Option Addr} {n c : Nat} {l : List Int} {cs : Array Value} (h : RS w W R U P a n c l cs) (j : Nat) : RS w (W.drewN j) R U P a n c l cs := h.below (below_drewN W _ j)
/-- The state behind the extension. -/
structure RT (w W : World) (R U P : Nat) (a' : Option Addr) (n' c' : Nat) (lt : List Int) (m : Bool) (pt sq ts ss : Int) (ac : Option Addr) (k cc : Nat) (lc : List Int) (h : Bool) (pr : Int) (ae : Option Addr) (ne ce : Nat) (le : List Int) : Prop where
  rs : RS w W R U P a' n' c' lt #[.bool m, .int .i64 pt, .int .u16 sq, .int .u32 ts, .int .u32 ss, .slice ac k cc, .bool h, .int .u16 pr, .slice ae ne ce, .slice none 0 0, .slice none 0 0]
  csrc : LIn W (P + 1) ac k lc
  ext : BIn W (P + 1) ae ne le
/-- The end: the packet is stored as the result. -/
theorem RT.done {w W W2 : World} {R U P : Nat} {a' : Option Addr} {n' c' : Nat} {lt : List Int} {m : Bool} {pt sq ts ss : Int} {ac : Option Addr} {k cc : Nat} {lc : List Int} {h : Bool} {pr : Int} {ae : Option Addr} {ne ce : Nat} {le : List Int} {ap ad : Option Addr} {np cp nd cd : Nat} {lp ld : List Int} {p : Pk}
    (hr : RS w W R U P a' 0 c' [] #[.bool m, .int .i64 pt, .int .u16 sq, .int .u32 ts, .int .u32 ss, .slice ac k cc, .bool h, .int .u16 pr, .slice ae ne ce, .slice ap np cp, .slice ad nd cd]) (hc : LIn W (P + 1) ac k lc) (he : BIn W (P + 1) ae ne le) (hpy : BIn W (P + 1) ap np lp) (hpd : BIn W (P + 1) ad nd ld)
    (hp : p = ⟨m, pt, sq, ts, ss, lc, h, pr, le, lp, ld⟩) (hsq : 0 ≤ sq ∧ sq < 65536) (hts : 0 ≤ ts ∧ ts < 4294967296) (hss : 0 ≤ ss ∧ ss < 4294967296) (hpr : 0 ≤ pr ∧ pr < 65536)
    (hput : Put W W2 w.heap.size #[.bool m, .int .i64 pt, .int .u16 sq, .int .u32 ts, .int .u32 ss, .slice ac k cc, .bool h, .int .u16 pr, .slice ae ne ce, .slice ap np cp, .slice ad nd cd] 66) :
    ParseOk R U 0 [] (QPk w.heap.size p) w (.returned (.agg #[.bool m, .int .i64 pt, .int .u16 sq, .int .u32 ts, .int .u32 ss, .slice ac k cc, .bool h, .int .u16 pr, .slice ae ne ce, .slice ap np cp, .slice ad nd cd])) W2 := by
  obtain ⟨h1, h2⟩ := hr.final hput
  have hl := hr.ltP
  have hab : Above (P + 1) W W2 := Above.grown hput.grown (by omega)
  subst hp
  exact ⟨_, a', c', rfl, h1, h2, ⟨ac, k, cc, ae, ne, ce, ap, np, cp, ad, nd, cd⟩, rfl, (hc.above hab).mono (by omega), (he.above hab).mono (by omega), (hpy.above hab).mono (by omega), (hpd.above hab).mono (by omega), hsq, hts, hss, hpr⟩
end Go.Proofs.Ytppgjodehphaeaa

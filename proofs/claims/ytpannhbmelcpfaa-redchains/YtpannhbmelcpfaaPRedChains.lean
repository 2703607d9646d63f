/-
  For every input, the law RedChains returns true, and its arguments read afterwards as before. No condition.
-/
import Derived.Test.YtpannhbmelcpfaaRows
import Derived.Test.YtpannhbmelcpfaaRedChains2
import Derived.WalkKit
import Derived.ProofKit
import Derived.OpenShut
import Derived.ShutString
import Derived.ChangeOld
import Derived.Below
import Derived.Deep.Matrix
import Derived.Deep.SlicePairs
import Derived.Lib.SmallJoins
import Derived.Deep.Fields
namespace Go.Proofs.Ytpannhbmelcpfaa.redChains
open Go.ChangeShapes Go.WideShapes Go.ChangeAt Go.RowKit
set_option linter.unusedVariables false
section
variable {H : Type} {enc : TypeId × Value → H} {P : Program} {w : World} {base : Nat} {spare : Nat → Bool} {held : Bool}
theorem open_agg11' {r : Reach} {b0 : Nat} {t : TypeId} {f0 f1 f2 f3 f4 f5 f6 f7 f8 f9 f10 : Field} {v : Value} {d : DataW H} {p : List MemPlace} (hs : P.underlying t = some (.struct #[f0, f1, f2, f3, f4, f5, f6, f7, f8, f9, f10])) (hone : Go.Deep.oneCellFields P #[f0, f1, f2, f3, f4, f5, f6, f7, f8, f9, f10] = true) (hC : P.cellsOf t = 11)
    (hv : Value.okWide P w r b0 t v) (h : DataW.Trod enc P w base spare held t v d p) :
    ∃ (v0 v1 v2 v3 v4 v5 v6 v7 v8 v9 v10 : Value) (y0 y1 y2 y3 y4 y5 y6 y7 y8 y9 y10 : DataW H × List MemPlace) (n : Nat), v = .agg #[v0, v1, v2, v3, v4, v5, v6, v7, v8, v9, v10] ∧
      DataW.trod enc P w base spare held n f0.type [v0] = some y0 ∧ DataW.trod enc P w base spare held n f1.type [v1] = some y1 ∧ DataW.trod enc P w base spare held n f2.type [v2] = some y2 ∧ DataW.trod enc P w base spare held n f3.type [v3] = some y3 ∧ DataW.trod enc P w base spare held n f4.type [v4] = some y4 ∧ DataW.trod enc P w base spare held n f5.type [v5] = some y5 ∧ DataW.trod enc P w base spare held n f6.type [v6] = some y6 ∧ DataW.trod enc P w base spare held n f7.type [v7] = some y7 ∧ DataW.trod enc P w base spare held n f8.type [v8] = some y8 ∧ DataW.trod enc P w base spare held n f9.type [v9] = some y9 ∧ DataW.trod enc P w base spare held n f10.type [v10] = some y10 := by
  obtain ⟨cs, rfl, hsz⟩ := okWide_struct hs hv
  obtain ⟨l⟩ := cs
  match l, hsz.trans hC with
  | [c0, c1, c2, c3, c4, c5, c6, c7, c8, c9, c10], _ =>
    obtain ⟨fuel, hf⟩ := h
    obtain ⟨xs, n, _, hx, _, hlen, hg⟩ := DataW.trod_struct hs hf
    obtain ⟨o0, k0⟩ := Go.Deep.hone_of hone 0 f0 rfl
    obtain ⟨o1, k1⟩ := Go.Deep.hone_of hone 1 f1 rfl
    obtain ⟨o2, k2⟩ := Go.Deep.hone_of hone 2 f2 rfl
    obtain ⟨o3, k3⟩ := Go.Deep.hone_of hone 3 f3 rfl
    obtain ⟨o4, k4⟩ := Go.Deep.hone_of hone 4 f4 rfl
    obtain ⟨o5, k5⟩ := Go.Deep.hone_of hone 5 f5 rfl
    obtain ⟨o6, k6⟩ := Go.Deep.hone_of hone 6 f6 rfl
    obtain ⟨o7, k7⟩ := Go.Deep.hone_of hone 7 f7 rfl
    obtain ⟨o8, k8⟩ := Go.Deep.hone_of hone 8 f8 rfl
    obtain ⟨o9, k9⟩ := Go.Deep.hone_of hone 9 f9 rfl
    obtain ⟨o10, k10⟩ := Go.Deep.hone_of hone 10 f10 rfl
    match xs, hlen with
    | [y0, y1, y2, y3, y4, y5, y6, y7, y8, y9, y10], _ =>
      exact ⟨c0, c1, c2, c3, c4, c5, c6, c7, c8, c9, c10, y0, y1, y2, y3, y4, y5, y6, y7, y8, y9, y10, n, rfl, by simpa [Value.cells, o0, k0] using hg 0 f0 rfl, by simpa [Value.cells, o1, k1] using hg 1 f1 rfl, by simpa [Value.cells, o2, k2] using hg 2 f2 rfl, by simpa [Value.cells, o3, k3] using hg 3 f3 rfl, by simpa [Value.cells, o4, k4] using hg 4 f4 rfl, by simpa [Value.cells, o5, k5] using hg 5 f5 rfl, by simpa [Value.cells, o6, k6] using hg 6 f6 rfl, by simpa [Value.cells, o7, k7] using hg 7 f7 rfl, by simpa [Value.cells, o8, k8] using hg 8 f8 rfl, by simpa [Value.cells, o9, k9] using hg 9 f9 rfl, by simpa [Value.cells, o10, k10] using hg 10 f10 rfl⟩
end

theorem own : ownKnob Try.prog.godebug = none := by kernel_rfl
theorem laidOut : laidOutB Try.prog = true := by kernel_rfl

theorem walk (a0 : Option Addr) (len0 cap0 : Nat) (P0 O0 : Nat → Int) (A0 : Nat → Option Addr) (L0 C0 : Nat → Nat) (Z0 : Nat → List Int) (x1_0 : Bool) (x1_1 : Int) (x1_2 : Int) (x1_3 : Int) (x1_4 : Int) (a1_5 : Option Addr) (n1_5 c1_5 : Nat) (z1_5 : List Int) (x1_6 : Bool) (x1_7 : Int) (a1_8 : Option Addr) (n1_8 c1_8 : Nat) (z1_8 : List Int) (a1_9 : Option Addr) (n1_9 c1_9 : Nat) (z1_9 : List Int) (a1_10 : Option Addr) (n1_10 c1_10 : Nat) (z1_10 : List Int) (w : World) (w0 : BkIn w a0 len0 cap0 P0 O0 A0 L0 C0 Z0) (w1 : (Lit.int .i64 x1_1).wf = true ∧ (Lit.int .u16 x1_2).wf = true ∧ (Lit.int .u32 x1_3).wf = true ∧ (Lit.int .u32 x1_4).wf = true ∧ IntRow .u32 w a1_5 n1_5 c1_5 z1_5 ∧ (Lit.int .u16 x1_7).wf = true ∧ IntRow .u8 w a1_8 n1_8 c1_8 z1_8 ∧ IntRow .u8 w a1_9 n1_9 c1_9 z1_9 ∧ IntRow .u8 w a1_10 n1_10 c1_10 z1_10) :
    Calls Try.prog 6 #[.slice a0 len0 cap0, .agg #[.bool x1_0, .int .i64 x1_1, .int .u16 x1_2, .int .u32 x1_3, .int .u32 x1_4, .slice a1_5 n1_5 c1_5, .bool x1_6, .int .u16 x1_7, .slice a1_8 n1_8 c1_8, .slice a1_9 n1_9 c1_9, .slice a1_10 n1_10 c1_10]] w fun e w' => e = .returned (.bool true) ∧ Below w.heap.size w w' := by
  exact (chains_in a0 len0 cap0 P0 O0 A0 L0 C0 Z0 ⟨x1_0, x1_1, x1_2, x1_3, x1_4, z1_5.take n1_5, x1_6, x1_7, z1_8.take n1_8, z1_9.take n1_9, z1_10.take n1_10⟩ ⟨a1_5, n1_5, c1_5, a1_8, n1_8, c1_8, a1_9, n1_9, c1_9, a1_10, n1_10, c1_10⟩ w w0 (pk_rows w1))

set_option maxRecDepth 100000 in
theorem lifted (os : Os) (started : os.Started) (H : Type) (enc : TypeId × Value → H) :
    ReturnsInHanded {} Try.checked os 6 .any (Rows.redChainsSpec.pre6 enc Try.prog Try.f6 Rows.redChainsRow.domain false) (Rows.redChainsSpec.post enc Try.prog Try.f6 false true false false) := by
  refine returnsInHanded_of_change (C := Try.checked) own started (by kernel_rfl) Try.func6
    (ChangeSpec.witness6 (enc := enc) (C := Try.checked) false ⟨#[], #[.slice none 0 0, .agg #[.bool false, .int .i64 0, .int .u16 0, .int .u32 0, .int .u32 0, .slice none 0 0, .bool false, .int .u16 0, .slice none 0 0, .slice none 0 0, .slice none 0 0]], []⟩ 8 (by kernel_rfl) (by kernel_rfl) (by kernel_rfl) (by kernel_rfl)) ?_
  intro W base args ds gs before hval0 hW hcnd _
  have hval : ∀ (j : Nat) t v, Try.f6.params[j]? = some t → args[j]? = some v → Value.okWide Try.prog W .any base t v := hval0
  have hW' := hW
  obtain ⟨p, q, hA0, hV, rfl, hfz, hnd⟩ := hW
  have hA : DataW.TrodAll enc Try.prog W 0 (fun _ => true) true Try.f6.params.toList args.toList ds p := hA0
  rw [Try.params6] at hA hval
  obtain ⟨v0, vs0, d0, ds0, p0, q0, hargs, rfl, rfl, h0, r0⟩ := trodAll_cons hA
  obtain ⟨v1, vs1, d1, ds1, p1, q1, rfl, rfl, rfl, h1, r1⟩ := trodAll_cons r0
  obtain ⟨rfl, rfl, rfl⟩ := trodAll_nil r1
  obtain rfl : args = #[v0, v1] := by cases args; simp_all
  obtain ⟨rfl, rfl⟩ := trodVars_none hV
  obtain ⟨a0, len0, cap0, rfl⟩ := okWide_slice Try.underlying39 (hval 0 39 v0 rfl rfl)
  have k0 := h0
  have lt0 : ∀ x ∈ p0, x.block < W.heap.size := by obtain ⟨m, hm⟩ := k0; exact DataW.trod_lt m _ _ _ hm
  obtain ⟨P0, O0, A0, L0, C0, Z0, w0⟩ : ∃ P O A L C Z, BkIn W a0 len0 cap0 P O A L C Z := by
    obtain ⟨fuel, hf⟩ := h0
    rcases Go.Deep.open_slice Try.underlying39 hf with ⟨hcs, _⟩ | ⟨x, l, c, m, n, D, Pl, hcs, _, hl, hm, hmm, _, hr⟩
    · simp [Value.cells] at hcs
      obtain ⟨rfl, rfl, rfl⟩ := hcs
      exact ⟨fun _ => 0, fun _ => 0, fun _ => Option.none, fun _ => 0, fun _ => 0, fun _ => [], .inl ⟨rfl, rfl, rfl⟩⟩
    · simp [Value.cells] at hcs
      obtain ⟨rfl, rfl, rfl⟩ := hcs
      simp only [if_true] at hmm
      rw [hmm] at hr
      have each : ∀ r, r < cap0 → ∃ q : Int × Int × Option Addr × Nat × Nat × List Int, (W.cell? (x.add (r * 3)) = some (.int .i64 q.1) ∧ (Lit.int .i64 q.1).wf = true) ∧ (W.cell? (x.add (r * 3 + 1)) = some (.int .i64 q.2.1) ∧ (Lit.int .i64 q.2.1).wf = true) ∧
          W.cell? (x.add (r * 3 + 2)) = some (.slice q.2.2.1 q.2.2.2.1 q.2.2.2.2.1) ∧ IntRow .u8 W q.2.2.1 q.2.2.2.1 q.2.2.2.2.1 q.2.2.2.2.2 := by
        intro r hr'
        obtain ⟨cs', h1, h2⟩ := hr r hr'
        rw [show Try.prog.cellsOf 54 = 3 by kernel_rfl] at h1
        obtain ⟨_, hlen, hcell⟩ := World.cells?_some h1
        obtain ⟨xs, k, hk, hxy, _, hxl, hf⟩ := DataW.trod_struct Try.underlying54 h2
        match cs', hlen, xs, hxl with
        | [v0, v1, v2], _, [y0, y1, y2], _ =>
          have g0 := hf 0 _ rfl
          have g1 := hf 1 _ rfl
          have g2 := hf 2 _ rfl
          obtain ⟨z0, e0, _, n0⟩ := DataW.trod_int Try.underlying3 (show DataW.trod enc Try.prog W 0 (fun _ => true) true k 3 [v0] = some y0 from by simpa [show Try.prog.cellsOf 3 = 1 by kernel_rfl] using g0)
          obtain ⟨z1, e1, _, n1⟩ := DataW.trod_int Try.underlying3 (show DataW.trod enc Try.prog W 0 (fun _ => true) true k 3 [v1] = some y1 from by simpa [show Try.prog.cellsOf 3 = 1 by kernel_rfl] using g1)
          have c0 := hcell 0 (by omega)
          have c1 := hcell 1 (by omega)
          have c2 := hcell 2 (by omega)
          rw [Go.Deep.add_add] at c0 c1 c2
          simp only [List.cons.injEq, and_true] at e0 e1
          subst e0 e1
          rcases open_ints Try.underlying25 Try.underlying5 (by kernel_rfl) (show DataW.trod enc Try.prog W 0 (fun _ => true) true k 25 [v2] = some y2 from by simpa [show Try.prog.cellsOf 25 = 1 by kernel_rfl] using g2) with ⟨hcs, _⟩ | ⟨y, l, c, zs, hcs, _, hl', hm', hz, _, hcell', hwz⟩
          · simp only [List.cons.injEq, and_true] at hcs
            exact ⟨(z0, z1, Option.none, 0, 0, []), ⟨by simpa using c0, n0⟩, ⟨by simpa using c1, n1⟩, by simpa [hcs] using c2, .inl ⟨rfl, rfl, rfl, rfl⟩⟩
          · simp only [List.cons.injEq, and_true] at hcs
            exact ⟨(z0, z1, some y, l, c, zs), ⟨by simpa using c0, n0⟩, ⟨by simpa using c1, n1⟩, by simpa [hcs] using c2, .inr ⟨_, rfl, hl', hm', by simpa using hz, hcell', hwz⟩⟩
      obtain ⟨f, hf'⟩ := Go.Deep.choose_lt each
      exact ⟨fun r => (f r).1, fun r => (f r).2.1, fun r => (f r).2.2.1, fun r => (f r).2.2.2.1, fun r => (f r).2.2.2.2.1, fun r => (f r).2.2.2.2.2, .inr ⟨_, rfl, hl, hm, hf'⟩⟩
  have k1 := h1
  have lt1 : ∀ x ∈ p1, x.block < W.heap.size := by obtain ⟨m, hm⟩ := k1; exact DataW.trod_lt m _ _ _ hm
  obtain ⟨v1_0, v1_1, v1_2, v1_3, v1_4, v1_5, v1_6, v1_7, v1_8, v1_9, v1_10, y1_0, y1_1, y1_2, y1_3, y1_4, y1_5, y1_6, y1_7, y1_8, y1_9, y1_10, nn1, rfl, t1_0, t1_1, t1_2, t1_3, t1_4, t1_5, t1_6, t1_7, t1_8, t1_9, t1_10⟩ := open_agg11' Try.underlying27 (by kernel_rfl) (by kernel_rfl) (hval 1 27 v1 rfl rfl) h1
  obtain ⟨x1_0, e1_0, _⟩ := DataW.trod_bool Try.underlying4 t1_0
  obtain rfl : v1_0 = .bool x1_0 := by simpa using e1_0
  obtain ⟨x1_1, e1_1, _, g1_1⟩ := DataW.trod_int Try.underlying3 t1_1
  obtain rfl : v1_1 = .int .i64 x1_1 := by simpa using e1_1
  obtain ⟨x1_2, e1_2, _, g1_2⟩ := DataW.trod_int Try.underlying22 t1_2
  obtain rfl : v1_2 = .int .u16 x1_2 := by simpa using e1_2
  obtain ⟨x1_3, e1_3, _, g1_3⟩ := DataW.trod_int Try.underlying23 t1_3
  obtain rfl : v1_3 = .int .u32 x1_3 := by simpa using e1_3
  obtain ⟨x1_4, e1_4, _, g1_4⟩ := DataW.trod_int Try.underlying23 t1_4
  obtain rfl : v1_4 = .int .u32 x1_4 := by simpa using e1_4
  obtain ⟨a1_5, n1_5, c1_5, z1_5, e1_5, g1_5⟩ : ∃ a n c z, v1_5 = .slice a n c ∧ IntRow .u32 W a n c z := by
    rcases open_ints Try.underlying24 Try.underlying23 (by kernel_rfl) t1_5 with ⟨hcs, _⟩ | ⟨y, l, c, zs, hcs, _, hl', hm', hz, _, hcell, hwz⟩
    · exact ⟨Option.none, 0, 0, [], by simpa using hcs, .inl ⟨rfl, rfl, rfl, rfl⟩⟩
    · exact ⟨some y, l, c, zs, by simpa using hcs, .inr ⟨_, rfl, hl', hm', by simpa using hz, hcell, hwz⟩⟩
  subst e1_5
  obtain ⟨x1_6, e1_6, _⟩ := DataW.trod_bool Try.underlying4 t1_6
  obtain rfl : v1_6 = .bool x1_6 := by simpa using e1_6
  obtain ⟨x1_7, e1_7, _, g1_7⟩ := DataW.trod_int Try.underlying22 t1_7
  obtain rfl : v1_7 = .int .u16 x1_7 := by simpa using e1_7
  obtain ⟨a1_8, n1_8, c1_8, z1_8, e1_8, g1_8⟩ : ∃ a n c z, v1_8 = .slice a n c ∧ IntRow .u8 W a n c z := by
    rcases open_ints Try.underlying25 Try.underlying5 (by kernel_rfl) t1_8 with ⟨hcs, _⟩ | ⟨y, l, c, zs, hcs, _, hl', hm', hz, _, hcell, hwz⟩
    · exact ⟨Option.none, 0, 0, [], by simpa using hcs, .inl ⟨rfl, rfl, rfl, rfl⟩⟩
    · exact ⟨some y, l, c, zs, by simpa using hcs, .inr ⟨_, rfl, hl', hm', by simpa using hz, hcell, hwz⟩⟩
  subst e1_8
  obtain ⟨a1_9, n1_9, c1_9, z1_9, e1_9, g1_9⟩ : ∃ a n c z, v1_9 = .slice a n c ∧ IntRow .u8 W a n c z := by
    rcases open_ints Try.underlying25 Try.underlying5 (by kernel_rfl) t1_9 with ⟨hcs, _⟩ | ⟨y, l, c, zs, hcs, _, hl', hm', hz, _, hcell, hwz⟩
    · exact ⟨Option.none, 0, 0, [], by simpa using hcs, .inl ⟨rfl, rfl, rfl, rfl⟩⟩
    · exact ⟨some y, l, c, zs, by simpa using hcs, .inr ⟨_, rfl, hl', hm', by simpa using hz, hcell, hwz⟩⟩
  subst e1_9
  obtain ⟨a1_10, n1_10, c1_10, z1_10, e1_10, g1_10⟩ : ∃ a n c z, v1_10 = .slice a n c ∧ IntRow .u8 W a n c z := by
    rcases open_ints Try.underlying25 Try.underlying5 (by kernel_rfl) t1_10 with ⟨hcs, _⟩ | ⟨y, l, c, zs, hcs, _, hl', hm', hz, _, hcell, hwz⟩
    · exact ⟨Option.none, 0, 0, [], by simpa using hcs, .inl ⟨rfl, rfl, rfl, rfl⟩⟩
    · exact ⟨some y, l, c, zs, by simpa using hcs, .inr ⟨_, rfl, hl', hm', by simpa using hz, hcell, hwz⟩⟩
  subst e1_10
  have w1 := (show _ from ⟨g1_1, g1_2, g1_3, g1_4, g1_5, g1_7, g1_8, g1_9, g1_10⟩ : (Lit.int .i64 x1_1).wf = true ∧ (Lit.int .u16 x1_2).wf = true ∧ (Lit.int .u32 x1_3).wf = true ∧ (Lit.int .u32 x1_4).wf = true ∧ IntRow .u32 W a1_5 n1_5 c1_5 z1_5 ∧ (Lit.int .u16 x1_7).wf = true ∧ IntRow .u8 W a1_8 n1_8 c1_8 z1_8 ∧ IntRow .u8 W a1_9 n1_9 c1_9 z1_9 ∧ IntRow .u8 W a1_10 n1_10 c1_10 z1_10)
  clear hA0 hval0
  refine (walk a0 len0 cap0 P0 O0 A0 L0 C0 Z0 x1_0 x1_1 x1_2 x1_3 x1_4 a1_5 n1_5 c1_5 z1_5 x1_6 x1_7 a1_8 n1_8 c1_8 z1_8 a1_9 n1_9 c1_9 z1_9 a1_10 n1_10 c1_10 z1_10 W w0 w1).mono fun e W' ⟨he, bel⟩ => ?_
  subst he
  exact ⟨_, rfl, _, _, _, [], _, [], hW', trodAll_mk1 (shut_bool Try.underlying4 _), (trodAll_cons_mk (Below.trod laidOut (by kernel_rfl) (of_decide_eq_true (by kernel_rfl)) k0 bel lt0) (trodAll_cons_mk (Below.trod laidOut (by kernel_rfl) (of_decide_eq_true (by kernel_rfl)) k1 bel lt1) trodAll_mk0)), rfl, bel.frame _, fun h => by cases h⟩

theorem over : Rows.redChainsRow.holds Try.pinned (OpenSpec.ofChange Rows.redChainsSpec) :=
  OpenClaim.holds_of_wide 6 Try.f6 rfl rfl rfl rfl rfl rfl rfl ⟨rfl, rfl, rfl, rfl, rfl⟩ rfl rfl rfl rfl rfl (by kernel_rfl) Try.func6 (by kernel_rfl)
    (of_decide_eq_true (by kernel_rfl)) (by unfold Func.isWrapper; first | (rw [if_pos (by decide +kernel)]; kernel_rfl) | (rw [if_neg (by decide +kernel)]; exact ⟨rfl, rfl⟩))
    (fun os started H enc _ => lifted os started H enc)

theorem proved : Rows.RedChainsSaid := over
#print axioms proved
end Go.Proofs.Ytpannhbmelcpfaa.redChains

/-
  For every input, the law ImprintPackets returns true, and its arguments read afterwards as before. No condition.
-/
import Derived.Test.YtppgjodehphaeaaRows
import Derived.Test.YtppgjodehphaeaaIbPkLit
import Derived.WalkKit
import Derived.ProofKit
import Derived.OpenShut
import Derived.ShutString
import Derived.ChangeOld
import Derived.Below
import Derived.Deep.Matrix
import Derived.Deep.SlicePairs
import Derived.Lib.SmallJoins
import Derived.Deep.Fields
namespace Go.Proofs.Ytppgjodehphaeaa.imprintPackets
open Go.ChangeShapes Go.WideShapes Go.ChangeAt Go.RowKit
set_option linter.unusedVariables false
section
variable {H : Type} {enc : TypeId × Value → H} {P : Program} {w : World} {base : Nat} {spare : Nat → Bool} {held : Bool}
theorem open_arr8' {r : Reach} {b0 : Nat} {t e : TypeId} {f0 f1 : Field} {v : Value} {d : DataW H} {p : List MemPlace} (hs : P.underlying t = some (.struct #[f0, f1])) (ha : P.underlying f0.type = some (.array 8 e)) (ho0 : f0.offset = 0) (ho1 : f1.offset = 8) (hc0 : P.cellsOf f0.type = 8) (hc1 : P.cellsOf f1.type = 1) (hce : P.cellsOf e = 1) (hC : P.cellsOf t = 9)
    (hv : Value.okWide P w r b0 t v) (h : DataW.Trod enc P w base spare held t v d p) :
    ∃ (v0 v1 v2 v3 v4 v5 v6 v7 v8 : Value) (y0 y1 y2 y3 y4 y5 y6 y7 y8 : DataW H × List MemPlace) (n m : Nat), v = .agg #[v0, v1, v2, v3, v4, v5, v6, v7, v8] ∧
      DataW.trod enc P w base spare held m e [v0] = some y0 ∧ DataW.trod enc P w base spare held m e [v1] = some y1 ∧ DataW.trod enc P w base spare held m e [v2] = some y2 ∧ DataW.trod enc P w base spare held m e [v3] = some y3 ∧ DataW.trod enc P w base spare held m e [v4] = some y4 ∧ DataW.trod enc P w base spare held m e [v5] = some y5 ∧ DataW.trod enc P w base spare held m e [v6] = some y6 ∧ DataW.trod enc P w base spare held m e [v7] = some y7 ∧ DataW.trod enc P w base spare held n f1.type [v8] = some y8 := by
  obtain ⟨cs, rfl, hsz⟩ := okWide_struct hs hv
  obtain ⟨l⟩ := cs
  match l, hsz.trans hC with
  | [c0, c1, c2, c3, c4, c5, c6, c7, c8], _ =>
    obtain ⟨fuel, hf⟩ := h
    obtain ⟨xs, n, _, hx, _, hlen, hg⟩ := DataW.trod_struct hs hf
    match xs, hlen with
    | [x0, x1], _ =>
      have g0 := hg 0 f0 rfl
      have g1 := hg 1 f1 rfl
      have g0' : DataW.trod enc P w base spare held n f0.type [c0, c1, c2, c3, c4, c5, c6, c7] = some x0 := by simpa [Value.cells, ho0, hc0] using g0
      have g1' : DataW.trod enc P w base spare held n f1.type [c8] = some x1 := by simpa [Value.cells, ho1, hc1] using g1
      obtain ⟨ys, m, _, _, _, hl, he⟩ := DataW.trod_array ha g0'
      match ys, hl with
      | [z0, z1, z2, z3, z4, z5, z6, z7], _ =>
        exact ⟨c0, c1, c2, c3, c4, c5, c6, c7, c8, z0, z1, z2, z3, z4, z5, z6, z7, x1, n, m, rfl, by simpa [hce] using he 0 (by omega), by simpa [hce] using he 1 (by omega), by simpa [hce] using he 2 (by omega), by simpa [hce] using he 3 (by omega), by simpa [hce] using he 4 (by omega), by simpa [hce] using he 5 (by omega), by simpa [hce] using he 6 (by omega), by simpa [hce] using he 7 (by omega), g1'⟩
end

theorem own : ownKnob Try.prog.godebug = none := by kernel_rfl
theorem laidOut : laidOutB Try.prog = true := by kernel_rfl

theorem walk (x0_0 : Int) (x0_1 : Int) (x0_2 : Int) (x0_3 : Int) (x0_4 : Int) (x0_5 : Int) (x0_6 : Int) (x0_7 : Int) (a0_8 : Option Addr) (n0_8 c0_8 : Nat) (z0_8 : List Int) (x1_0 : Int) (x1_1 : Int) (x1_2 : Int) (x1_3 : Int) (x1_4 : Int) (x1_5 : Int) (x1_6 : Int) (x1_7 : Int) (a1_8 : Option Addr) (n1_8 c1_8 : Nat) (z1_8 : List Int) (a2 : Int) (a3 : Int) (w : World) (w0 : (Lit.int .u8 x0_0).wf = true ∧ (Lit.int .u8 x0_1).wf = true ∧ (Lit.int .u8 x0_2).wf = true ∧ (Lit.int .u8 x0_3).wf = true ∧ (Lit.int .u8 x0_4).wf = true ∧ (Lit.int .u8 x0_5).wf = true ∧ (Lit.int .u8 x0_6).wf = true ∧ (Lit.int .u8 x0_7).wf = true ∧ IntRow .u8 w a0_8 n0_8 c0_8 z0_8) (w1 : (Lit.int .u8 x1_0).wf = true ∧ (Lit.int .u8 x1_1).wf = true ∧ (Lit.int .u8 x1_2).wf = true ∧ (Lit.int .u8 x1_3).wf = true ∧ (Lit.int .u8 x1_4).wf = true ∧ (Lit.int .u8 x1_5).wf = true ∧ (Lit.int .u8 x1_6).wf = true ∧ (Lit.int .u8 x1_7).wf = true ∧ IntRow .u8 w a1_8 n1_8 c1_8 z1_8) (w2 : (Lit.int .u16 a2).wf = true) (w3 : (Lit.int .u32 a3).wf = true) :
    Calls Try.prog 4 #[.agg #[.int .u8 x0_0, .int .u8 x0_1, .int .u8 x0_2, .int .u8 x0_3, .int .u8 x0_4, .int .u8 x0_5, .int .u8 x0_6, .int .u8 x0_7, .slice a0_8 n0_8 c0_8], .agg #[.int .u8 x1_0, .int .u8 x1_1, .int .u8 x1_2, .int .u8 x1_3, .int .u8 x1_4, .int .u8 x1_5, .int .u8 x1_6, .int .u8 x1_7, .slice a1_8 n1_8 c1_8], .int .u16 a2, .int .u32 a3] w fun e w' => e = .returned (.bool true) ∧ Below w.heap.size w w' := by
  exact (packets_in x0_0 x0_1 x0_2 x0_3 x0_4 x0_5 x0_6 x0_7  a0_8 n0_8 c0_8 z0_8 x1_0 x1_1 x1_2 x1_3 x1_4 x1_5 x1_6 x1_7  a1_8 n1_8 c1_8 z1_8 a2 a3 w w0 w1 w2 w3)

set_option maxRecDepth 100000 in
theorem lifted (os : Os) (started : os.Started) (H : Type) (enc : TypeId × Value → H) :
    ReturnsInHanded {} Try.checked os 4 .any (Rows.imprintPacketsSpec.pre6 enc Try.prog Try.f4 Rows.imprintPacketsRow.domain false) (Rows.imprintPacketsSpec.post enc Try.prog Try.f4 false true false false) := by
  refine returnsInHanded_of_change (C := Try.checked) own started (by kernel_rfl) Try.func4
    (ChangeSpec.witness6 (enc := enc) (C := Try.checked) false ⟨#[], #[.agg #[.int .u8 0, .int .u8 0, .int .u8 0, .int .u8 0, .int .u8 0, .int .u8 0, .int .u8 0, .int .u8 0, .slice none 0 0], .agg #[.int .u8 0, .int .u8 0, .int .u8 0, .int .u8 0, .int .u8 0, .int .u8 0, .int .u8 0, .int .u8 0, .slice none 0 0], .int .u16 0, .int .u32 0], []⟩ 8 (by kernel_rfl) (by kernel_rfl) (by kernel_rfl) (by kernel_rfl)) ?_
  intro W base args ds gs before hval0 hW hcnd _
  have hval : ∀ (j : Nat) t v, Try.f4.params[j]? = some t → args[j]? = some v → Value.okWide Try.prog W .any base t v := hval0
  have hW' := hW
  obtain ⟨p, q, hA0, hV, rfl, hfz, hnd⟩ := hW
  have hA : DataW.TrodAll enc Try.prog W 0 (fun _ => true) true Try.f4.params.toList args.toList ds p := hA0
  rw [Try.params4] at hA hval
  obtain ⟨v0, vs0, d0, ds0, p0, q0, hargs, rfl, rfl, h0, r0⟩ := trodAll_cons hA
  obtain ⟨v1, vs1, d1, ds1, p1, q1, rfl, rfl, rfl, h1, r1⟩ := trodAll_cons r0
  obtain ⟨v2, vs2, d2, ds2, p2, q2, rfl, rfl, rfl, h2, r2⟩ := trodAll_cons r1
  obtain ⟨v3, vs3, d3, ds3, p3, q3, rfl, rfl, rfl, h3, r3⟩ := trodAll_cons r2
  obtain ⟨rfl, rfl, rfl⟩ := trodAll_nil r3
  obtain rfl : args = #[v0, v1, v2, v3] := by cases args; simp_all
  obtain ⟨rfl, rfl⟩ := trodVars_none hV
  have k0 := h0
  have lt0 : ∀ x ∈ p0, x.block < W.heap.size := by obtain ⟨m, hm⟩ := k0; exact DataW.trod_lt m _ _ _ hm
  obtain ⟨v0_0, v0_1, v0_2, v0_3, v0_4, v0_5, v0_6, v0_7, v0_8, y0_0, y0_1, y0_2, y0_3, y0_4, y0_5, y0_6, y0_7, y0_8, nn0, mm0, rfl, t0_0, t0_1, t0_2, t0_3, t0_4, t0_5, t0_6, t0_7, t0_8⟩ := open_arr8' Try.underlying27 Try.underlying25 rfl rfl (by kernel_rfl) (by kernel_rfl) (by kernel_rfl) (by kernel_rfl) (hval 0 27 v0 rfl rfl) h0
  obtain ⟨x0_0, e0_0, _, g0_0⟩ := DataW.trod_int Try.underlying5 t0_0
  obtain rfl : v0_0 = .int .u8 x0_0 := by simpa using e0_0
  obtain ⟨x0_1, e0_1, _, g0_1⟩ := DataW.trod_int Try.underlying5 t0_1
  obtain rfl : v0_1 = .int .u8 x0_1 := by simpa using e0_1
  obtain ⟨x0_2, e0_2, _, g0_2⟩ := DataW.trod_int Try.underlying5 t0_2
  obtain rfl : v0_2 = .int .u8 x0_2 := by simpa using e0_2
  obtain ⟨x0_3, e0_3, _, g0_3⟩ := DataW.trod_int Try.underlying5 t0_3
  obtain rfl : v0_3 = .int .u8 x0_3 := by simpa using e0_3
  obtain ⟨x0_4, e0_4, _, g0_4⟩ := DataW.trod_int Try.underlying5 t0_4
  obtain rfl : v0_4 = .int .u8 x0_4 := by simpa using e0_4
  obtain ⟨x0_5, e0_5, _, g0_5⟩ := DataW.trod_int Try.underlying5 t0_5
  obtain rfl : v0_5 = .int .u8 x0_5 := by simpa using e0_5
  obtain ⟨x0_6, e0_6, _, g0_6⟩ := DataW.trod_int Try.underlying5 t0_6
  obtain rfl : v0_6 = .int .u8 x0_6 := by simpa using e0_6
  obtain ⟨x0_7, e0_7, _, g0_7⟩ := DataW.trod_int Try.underlying5 t0_7
  obtain rfl : v0_7 = .int .u8 x0_7 := by simpa using e0_7
  obtain ⟨a0_8, n0_8, c0_8, z0_8, e0_8, g0_8⟩ : ∃ a n c z, v0_8 = .slice a n c ∧ IntRow .u8 W a n c z := by
    rcases open_ints Try.underlying22 Try.underlying5 (by kernel_rfl) t0_8 with ⟨hcs, _⟩ | ⟨y, l, c, zs, hcs, _, hl', hm', hz, _, hcell, hwz⟩
    · exact ⟨Option.none, 0, 0, [], by simpa using hcs, .inl ⟨rfl, rfl, rfl, rfl⟩⟩
    · exact ⟨some y, l, c, zs, by simpa using hcs, .inr ⟨_, rfl, hl', hm', by simpa using hz, hcell, hwz⟩⟩
  subst e0_8
  have w0 := (show _ from ⟨g0_0, g0_1, g0_2, g0_3, g0_4, g0_5, g0_6, g0_7, g0_8⟩ : (Lit.int .u8 x0_0).wf = true ∧ (Lit.int .u8 x0_1).wf = true ∧ (Lit.int .u8 x0_2).wf = true ∧ (Lit.int .u8 x0_3).wf = true ∧ (Lit.int .u8 x0_4).wf = true ∧ (Lit.int .u8 x0_5).wf = true ∧ (Lit.int .u8 x0_6).wf = true ∧ (Lit.int .u8 x0_7).wf = true ∧ IntRow .u8 W a0_8 n0_8 c0_8 z0_8)
  have k1 := h1
  have lt1 : ∀ x ∈ p1, x.block < W.heap.size := by obtain ⟨m, hm⟩ := k1; exact DataW.trod_lt m _ _ _ hm
  obtain ⟨v1_0, v1_1, v1_2, v1_3, v1_4, v1_5, v1_6, v1_7, v1_8, y1_0, y1_1, y1_2, y1_3, y1_4, y1_5, y1_6, y1_7, y1_8, nn1, mm1, rfl, t1_0, t1_1, t1_2, t1_3, t1_4, t1_5, t1_6, t1_7, t1_8⟩ := open_arr8' Try.underlying27 Try.underlying25 rfl rfl (by kernel_rfl) (by kernel_rfl) (by kernel_rfl) (by kernel_rfl) (hval 1 27 v1 rfl rfl) h1
  obtain ⟨x1_0, e1_0, _, g1_0⟩ := DataW.trod_int Try.underlying5 t1_0
  obtain rfl : v1_0 = .int .u8 x1_0 := by simpa using e1_0
  obtain ⟨x1_1, e1_1, _, g1_1⟩ := DataW.trod_int Try.underlying5 t1_1
  obtain rfl : v1_1 = .int .u8 x1_1 := by simpa using e1_1
  obtain ⟨x1_2, e1_2, _, g1_2⟩ := DataW.trod_int Try.underlying5 t1_2
  obtain rfl : v1_2 = .int .u8 x1_2 := by simpa using e1_2
  obtain ⟨x1_3, e1_3, _, g1_3⟩ := DataW.trod_int Try.underlying5 t1_3
  obtain rfl : v1_3 = .int .u8 x1_3 := by simpa using e1_3
  obtain ⟨x1_4, e1_4, _, g1_4⟩ := DataW.trod_int Try.underlying5 t1_4
  obtain rfl : v1_4 = .int .u8 x1_4 := by simpa using e1_4
  obtain ⟨x1_5, e1_5, _, g1_5⟩ := DataW.trod_int Try.underlying5 t1_5
  obtain rfl : v1_5 = .int .u8 x1_5 := by simpa using e1_5
  obtain ⟨x1_6, e1_6, _, g1_6⟩ := DataW.trod_int Try.underlying5 t1_6
  obtain rfl : v1_6 = .int .u8 x1_6 := by simpa using e1_6
  obtain ⟨x1_7, e1_7, _, g1_7⟩ := DataW.trod_int Try.underlying5 t1_7
  obtain rfl : v1_7 = .int .u8 x1_7 := by simpa using e1_7
  obtain ⟨a1_8, n1_8, c1_8, z1_8, e1_8, g1_8⟩ : ∃ a n c z, v1_8 = .slice a n c ∧ IntRow .u8 W a n c z := by
    rcases open_ints Try.underlying22 Try.underlying5 (by kernel_rfl) t1_8 with ⟨hcs, _⟩ | ⟨y, l, c, zs, hcs, _, hl', hm', hz, _, hcell, hwz⟩
    · exact ⟨Option.none, 0, 0, [], by simpa using hcs, .inl ⟨rfl, rfl, rfl, rfl⟩⟩
    · exact ⟨some y, l, c, zs, by simpa using hcs, .inr ⟨_, rfl, hl', hm', by simpa using hz, hcell, hwz⟩⟩
  subst e1_8
  have w1 := (show _ from ⟨g1_0, g1_1, g1_2, g1_3, g1_4, g1_5, g1_6, g1_7, g1_8⟩ : (Lit.int .u8 x1_0).wf = true ∧ (Lit.int .u8 x1_1).wf = true ∧ (Lit.int .u8 x1_2).wf = true ∧ (Lit.int .u8 x1_3).wf = true ∧ (Lit.int .u8 x1_4).wf = true ∧ (Lit.int .u8 x1_5).wf = true ∧ (Lit.int .u8 x1_6).wf = true ∧ (Lit.int .u8 x1_7).wf = true ∧ IntRow .u8 W a1_8 n1_8 c1_8 z1_8)
  obtain ⟨a2, rfl, rfl, rfl, w2⟩ := open_int Try.underlying39 (hval 2 39 v2 rfl rfl) h2
  obtain ⟨a3, rfl, rfl, rfl, w3⟩ := open_int Try.underlying40 (hval 3 40 v3 rfl rfl) h3
  clear hA0 hval0
  refine (walk x0_0 x0_1 x0_2 x0_3 x0_4 x0_5 x0_6 x0_7 a0_8 n0_8 c0_8 z0_8 x1_0 x1_1 x1_2 x1_3 x1_4 x1_5 x1_6 x1_7 a1_8 n1_8 c1_8 z1_8 a2 a3 W w0 w1 w2 w3).mono fun e W' ⟨he, bel⟩ => ?_
  subst he
  exact ⟨_, rfl, _, _, _, [], _, [], hW', trodAll_mk1 (shut_bool Try.underlying4 _), (trodAll_cons_mk (Below.trod laidOut (by kernel_rfl) (of_decide_eq_true (by kernel_rfl)) k0 bel lt0) (trodAll_cons_mk (Below.trod laidOut (by kernel_rfl) (of_decide_eq_true (by kernel_rfl)) k1 bel lt1) (trodAll_cons_mk (shut_int Try.underlying39 w2) (trodAll_cons_mk (shut_int Try.underlying40 w3) trodAll_mk0)))), rfl, bel.frame _, fun h => by cases h⟩

theorem over : Rows.imprintPacketsRow.holds Try.pinned (OpenSpec.ofChange Rows.imprintPacketsSpec) :=
  OpenClaim.holds_of_wide 4 Try.f4 rfl rfl rfl rfl rfl rfl rfl ⟨rfl, rfl, rfl, rfl, rfl⟩ rfl rfl rfl rfl rfl (by kernel_rfl) Try.func4 (by kernel_rfl)
    (of_decide_eq_true (by kernel_rfl)) (by unfold Func.isWrapper; first | (rw [if_pos (by decide +kernel)]; kernel_rfl) | (rw [if_neg (by decide +kernel)]; exact ⟨rfl, rfl⟩))
    (fun os started H enc _ => lifted os started H enc)

theorem proved : Rows.ImprintPacketsSaid := over
#print axioms proved
end Go.Proofs.Ytppgjodehphaeaa.imprintPackets

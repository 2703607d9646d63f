/-
  For every input, the law RtpWrites returns true, and its arguments read afterwards as before. No condition.
-/
import Derived.Test.YtkoldfoliigifaaRows
import Derived.Test.YtkoldfoliigifaaRtpWLaw
import Derived.Test.YtkoldfoliigifaaRtpOpen
import Derived.WalkKit
import Derived.ProofKit
import Derived.OpenShut
import Derived.ShutString
import Derived.ChangeOld
import Derived.Below
import Derived.Deep.Matrix
import Derived.Deep.SlicePairs
import Derived.Lib.SmallJoins
import Derived.Deep.Fields
namespace Go.Proofs.Ytkoldfoliigifaa.rtpWrites
open Go.ChangeShapes Go.WideShapes Go.ChangeAt Go.RowKit
set_option linter.unusedVariables false
section
variable {H : Type} {enc : TypeId × Value → H} {P : Program} {w : World} {base : Nat} {spare : Nat → Bool} {held : Bool}
theorem open_agg11' {r : Reach} {b0 : Nat} {t : TypeId} {f0 f1 f2 f3 f4 f5 f6 f7 f8 f9 f10 : Field} {v : Value} {d : DataW H} {p : List MemPlace} (hs : P.underlying t = some (.struct #[f0, f1, f2, f3, f4, f5, f6, f7, f8, f9, f10])) (hone : Go.Deep.oneCellFields P #[f0, f1, f2, f3, f4, f5, f6, f7, f8, f9, f10] = true) (hC : P.cellsOf t = 11)
    (hv : Value.okWide P w r b0 t v) (h : DataW.Trod enc P w base spare held t v d p) :
    ∃ (v0 v1 v2 v3 v4 v5 v6 v7 v8 v9 v10 : Value) (y0 y1 y2 y3 y4 y5 y6 y7 y8 y9 y10 : DataW H × List MemPlace) (n : Nat), v = .agg #[v0, v1, v2, v3, v4, v5, v6, v7, v8, v9, v10] ∧
      DataW.trod enc P w base spare held n f0.type [v0] = some y0 ∧ DataW.trod enc P w base spare held n f1.type [v1] = some y1 ∧ DataW.trod enc P w base spare held n f2.type [v2] = some y2 ∧ DataW.trod enc P w base spare held n f3.type [v3] = some y3 ∧ DataW.trod enc P w base spare held n f4.type [v4] = some y4 ∧ DataW.trod enc P w base spare held n f5.type [v5] = some y5 ∧ DataW.trod enc P w base spare held n f6.type [v6] = some y6 ∧ DataW.trod enc P w base spare held n f7.type [v7] = some y7 ∧ DataW.trod enc P w base spare held n f8.type [v8] = some y8 ∧ DataW.trod enc P w base spare held n f9.type [v9] = some y9 ∧ DataW.trod enc P w base spare held n f10.type [v10] = some y10 := by
  obtain ⟨cs, rfl, hsz⟩ := okWide_struct hs hv
  obtain ⟨l⟩ := cs
  match l, hsz.trans hC with
  | [c0, c1, c2, c3, c4, c5, c6, c7, c8, c9, c10], _ =>
    obtain ⟨fuel, hf⟩ := h
    obtain ⟨xs, n, _, hx, _, hlen, hg⟩ := DataW.trod_struct hs hf
    obtain ⟨o0, k0⟩ := Go.Deep.hone_of hone 0 f0 rfl
    obtain ⟨o1, k1⟩ := Go.Deep.hone_of hone 1 f1 rfl
    obtain ⟨o2, k2⟩ := Go.Deep.hone_of hone 2 f2 rfl
    obtain ⟨o3, k3⟩ := Go.Deep.hone_of hone 3 f3 rfl
    obtain ⟨o4, k4⟩ := Go.Deep.hone_of hone 4 f4 rfl
    obtain ⟨o5, k5⟩ := Go.Deep.hone_of hone 5 f5 rfl
    obtain ⟨o6, k6⟩ := Go.Deep.hone_of hone 6 f6 rfl
    obtain ⟨o7, k7⟩ := Go.Deep.hone_of hone 7 f7 rfl
    obtain ⟨o8, k8⟩ := Go.Deep.hone_of hone 8 f8 rfl
    obtain ⟨o9, k9⟩ := Go.Deep.hone_of hone 9 f9 rfl
    obtain ⟨o10, k10⟩ := Go.Deep.hone_of hone 10 f10 rfl
    match xs, hlen with
    | [y0, y1, y2, y3, y4, y5, y6, y7, y8, y9, y10], _ =>
      exact ⟨c0, c1, c2, c3, c4, c5, c6, c7, c8, c9, c10, y0, y1, y2, y3, y4, y5, y6, y7, y8, y9, y10, n, rfl, by simpa [Value.cells, o0, k0] using hg 0 f0 rfl, by simpa [Value.cells, o1, k1] using hg 1 f1 rfl, by simpa [Value.cells, o2, k2] using hg 2 f2 rfl, by simpa [Value.cells, o3, k3] using hg 3 f3 rfl, by simpa [Value.cells, o4, k4] using hg 4 f4 rfl, by simpa [Value.cells, o5, k5] using hg 5 f5 rfl, by simpa [Value.cells, o6, k6] using hg 6 f6 rfl, by simpa [Value.cells, o7, k7] using hg 7 f7 rfl, by simpa [Value.cells, o8, k8] using hg 8 f8 rfl, by simpa [Value.cells, o9, k9] using hg 9 f9 rfl, by simpa [Value.cells, o10, k10] using hg 10 f10 rfl⟩
end

theorem own : ownKnob Try.prog.godebug = none := by kernel_rfl
theorem laidOut : laidOutB Try.prog = true := by kernel_rfl

theorem walk (x0_0 : Bool) (x0_1 : Int) (x0_2 : Int) (x0_3 : Int) (x0_4 : Int) (a0_5 : Option Addr) (n0_5 c0_5 : Nat) (z0_5 : List Int) (x0_6 : Bool) (x0_7 : Int) (a0_8 : Option Addr) (n0_8 c0_8 : Nat) (z0_8 : List Int) (a0_9 : Option Addr) (n0_9 c0_9 : Nat) (z0_9 : List Int) (a0_10 : Option Addr) (n0_10 c0_10 : Nat) (z0_10 : List Int) (x1_0 : Bool) (x1_1 : Int) (x1_2 : Int) (x1_3 : Int) (x1_4 : Int) (a1_5 : Option Addr) (n1_5 c1_5 : Nat) (z1_5 : List Int) (x1_6 : Bool) (x1_7 : Int) (a1_8 : Option Addr) (n1_8 c1_8 : Nat) (z1_8 : List Int) (a1_9 : Option Addr) (n1_9 c1_9 : Nat) (z1_9 : List Int) (a1_10 : Option Addr) (n1_10 c1_10 : Nat) (z1_10 : List Int) (w : World) (w0 : (Lit.int .i64 x0_1).wf = true ∧ (Lit.int .u16 x0_2).wf = true ∧ (Lit.int .u32 x0_3).wf = true ∧ (Lit.int .u32 x0_4).wf = true ∧ IntRow .u32 w a0_5 n0_5 c0_5 z0_5 ∧ (Lit.int .u16 x0_7).wf = true ∧ IntRow .u8 w a0_8 n0_8 c0_8 z0_8 ∧ IntRow .u8 w a0_9 n0_9 c0_9 z0_9 ∧ IntRow .u8 w a0_10 n0_10 c0_10 z0_10) (w1 : (Lit.int .i64 x1_1).wf = true ∧ (Lit.int .u16 x1_2).wf = true ∧ (Lit.int .u32 x1_3).wf = true ∧ (Lit.int .u32 x1_4).wf = true ∧ IntRow .u32 w a1_5 n1_5 c1_5 z1_5 ∧ (Lit.int .u16 x1_7).wf = true ∧ IntRow .u8 w a1_8 n1_8 c1_8 z1_8 ∧ IntRow .u8 w a1_9 n1_9 c1_9 z1_9 ∧ IntRow .u8 w a1_10 n1_10 c1_10 z1_10) :
    Calls Try.prog 3 #[.agg #[.bool x0_0, .int .i64 x0_1, .int .u16 x0_2, .int .u32 x0_3, .int .u32 x0_4, .slice a0_5 n0_5 c0_5, .bool x0_6, .int .u16 x0_7, .slice a0_8 n0_8 c0_8, .slice a0_9 n0_9 c0_9, .slice a0_10 n0_10 c0_10], .agg #[.bool x1_0, .int .i64 x1_1, .int .u16 x1_2, .int .u32 x1_3, .int .u32 x1_4, .slice a1_5 n1_5 c1_5, .bool x1_6, .int .u16 x1_7, .slice a1_8 n1_8 c1_8, .slice a1_9 n1_9 c1_9, .slice a1_10 n1_10 c1_10]] w fun e w' => e = .returned (.bool true) ∧ Below w.heap.size w w' := by
  exact (walk_RtpWrites ⟨x0_0, x0_1, x0_2, x0_3, x0_4, z0_5.take n0_5, x0_6, x0_7, z0_8.take n0_8, z0_9.take n0_9, z0_10.take n0_10⟩ ⟨x1_0, x1_1, x1_2, x1_3, x1_4, z1_5.take n1_5, x1_6, x1_7, z1_8.take n1_8, z1_9.take n1_9, z1_10.take n1_10⟩ ⟨a0_5, n0_5, c0_5, a0_8, n0_8, c0_8, a0_9, n0_9, c0_9, a0_10, n0_10, c0_10⟩ ⟨a1_5, n1_5, c1_5, a1_8, n1_8, c1_8, a1_9, n1_9, c1_9, a1_10, n1_10, c1_10⟩ w (pk_rows w0) (pk_rows w1))

set_option maxRecDepth 100000 in
theorem lifted (os : Os) (started : os.Started) (H : Type) (enc : TypeId × Value → H) :
    ReturnsInHanded {} Try.checked os 3 .any (Rows.rtpWritesSpec.pre6 enc Try.prog Try.f3 Rows.rtpWritesRow.domain false) (Rows.rtpWritesSpec.post enc Try.prog Try.f3 false true false false) := by
  refine returnsInHanded_of_change (C := Try.checked) own started (by kernel_rfl) Try.func3
    (ChangeSpec.witness6 (enc := enc) (C := Try.checked) false ⟨#[], #[.agg #[.bool false, .int .i64 0, .int .u16 0, .int .u32 0, .int .u32 0, .slice none 0 0, .bool false, .int .u16 0, .slice none 0 0, .slice none 0 0, .slice none 0 0], .agg #[.bool false, .int .i64 0, .int .u16 0, .int .u32 0, .int .u32 0, .slice none 0 0, .bool false, .int .u16 0, .slice none 0 0, .slice none 0 0, .slice none 0 0]], []⟩ 8 (by kernel_rfl) (by kernel_rfl) (by kernel_rfl) (by kernel_rfl)) ?_
  intro W base args ds gs before hval0 hW hcnd _
  have hval : ∀ (j : Nat) t v, Try.f3.params[j]? = some t → args[j]? = some v → Value.okWide Try.prog W .any base t v := hval0
  have hW' := hW
  obtain ⟨p, q, hA0, hV, rfl, hfz, hnd⟩ := hW
  have hA : DataW.TrodAll enc Try.prog W 0 (fun _ => true) true Try.f3.params.toList args.toList ds p := hA0
  rw [Try.params3] at hA hval
  obtain ⟨v0, vs0, d0, ds0, p0, q0, hargs, rfl, rfl, h0, r0⟩ := trodAll_cons hA
  obtain ⟨v1, vs1, d1, ds1, p1, q1, rfl, rfl, rfl, h1, r1⟩ := trodAll_cons r0
  obtain ⟨rfl, rfl, rfl⟩ := trodAll_nil r1
  obtain rfl : args = #[v0, v1] := by cases args; simp_all
  obtain ⟨rfl, rfl⟩ := trodVars_none hV
  have k0 := h0
  have lt0 : ∀ x ∈ p0, x.block < W.heap.size := by obtain ⟨m, hm⟩ := k0; exact DataW.trod_lt m _ _ _ hm
  obtain ⟨v0_0, v0_1, v0_2, v0_3, v0_4, v0_5, v0_6, v0_7, v0_8, v0_9, v0_10, y0_0, y0_1, y0_2, y0_3, y0_4, y0_5, y0_6, y0_7, y0_8, y0_9, y0_10, nn0, rfl, t0_0, t0_1, t0_2, t0_3, t0_4, t0_5, t0_6, t0_7, t0_8, t0_9, t0_10⟩ := open_agg11' Try.underlying27 (by kernel_rfl) (by kernel_rfl) (hval 0 27 v0 rfl rfl) h0
  obtain ⟨x0_0, e0_0, _⟩ := DataW.trod_bool Try.underlying4 t0_0
  obtain rfl : v0_0 = .bool x0_0 := by simpa using e0_0
  obtain ⟨x0_1, e0_1, _, g0_1⟩ := DataW.trod_int Try.underlying3 t0_1
  obtain rfl : v0_1 = .int .i64 x0_1 := by simpa using e0_1
  obtain ⟨x0_2, e0_2, _, g0_2⟩ := DataW.trod_int Try.underlying22 t0_2
  obtain rfl : v0_2 = .int .u16 x0_2 := by simpa using e0_2
  obtain ⟨x0_3, e0_3, _, g0_3⟩ := DataW.trod_int Try.underlying23 t0_3
  obtain rfl : v0_3 = .int .u32 x0_3 := by simpa using e0_3
  obtain ⟨x0_4, e0_4, _, g0_4⟩ := DataW.trod_int Try.underlying23 t0_4
  obtain rfl : v0_4 = .int .u32 x0_4 := by simpa using e0_4
  obtain ⟨a0_5, n0_5, c0_5, z0_5, e0_5, g0_5⟩ : ∃ a n c z, v0_5 = .slice a n c ∧ IntRow .u32 W a n c z := by
    rcases open_ints Try.underlying24 Try.underlying23 (by kernel_rfl) t0_5 with ⟨hcs, _⟩ | ⟨y, l, c, zs, hcs, _, hl', hm', hz, _, hcell, hwz⟩
    · exact ⟨Option.none, 0, 0, [], by simpa using hcs, .inl ⟨rfl, rfl, rfl, rfl⟩⟩
    · exact ⟨some y, l, c, zs, by simpa using hcs, .inr ⟨_, rfl, hl', hm', by simpa using hz, hcell, hwz⟩⟩
  subst e0_5
  obtain ⟨x0_6, e0_6, _⟩ := DataW.trod_bool Try.underlying4 t0_6
  obtain rfl : v0_6 = .bool x0_6 := by simpa using e0_6
  obtain ⟨x0_7, e0_7, _, g0_7⟩ := DataW.trod_int Try.underlying22 t0_7
  obtain rfl : v0_7 = .int .u16 x0_7 := by simpa using e0_7
  obtain ⟨a0_8, n0_8, c0_8, z0_8, e0_8, g0_8⟩ : ∃ a n c z, v0_8 = .slice a n c ∧ IntRow .u8 W a n c z := by
    rcases open_ints Try.underlying25 Try.underlying5 (by kernel_rfl) t0_8 with ⟨hcs, _⟩ | ⟨y, l, c, zs, hcs, _, hl', hm', hz, _, hcell, hwz⟩
    · exact ⟨Option.none, 0, 0, [], by simpa using hcs, .inl ⟨rfl, rfl, rfl, rfl⟩⟩
    · exact ⟨some y, l, c, zs, by simpa using hcs, .inr ⟨_, rfl, hl', hm', by simpa using hz, hcell, hwz⟩⟩
  subst e0_8
  obtain ⟨a0_9, n0_9, c0_9, z0_9, e0_9, g0_9⟩ : ∃ a n c z, v0_9 = .slice a n c ∧ IntRow .u8 W a n c z := by
    rcases open_ints Try.underlying25 Try.underlying5 (by kernel_rfl) t0_9 with ⟨hcs, _⟩ | ⟨y, l, c, zs, hcs, _, hl', hm', hz, _, hcell, hwz⟩
    · exact ⟨Option.none, 0, 0, [], by simpa using hcs, .inl ⟨rfl, rfl, rfl, rfl⟩⟩
    · exact ⟨some y, l, c, zs, by simpa using hcs, .inr ⟨_, rfl, hl', hm', by simpa using hz, hcell, hwz⟩⟩
  subst e0_9
  obtain ⟨a0_10, n0_10, c0_10, z0_10, e0_10, g0_10⟩ : ∃ a n c z, v0_10 = .slice a n c ∧ IntRow .u8 W a n c z := by
    rcases open_ints Try.underlying25 Try.underlying5 (by kernel_rfl) t0_10 with ⟨hcs, _⟩ | ⟨y, l, c, zs, hcs, _, hl', hm', hz, _, hcell, hwz⟩
    · exact ⟨Option.none, 0, 0, [], by simpa using hcs, .inl ⟨rfl, rfl, rfl, rfl⟩⟩
    · exact ⟨some y, l, c, zs, by simpa using hcs, .inr ⟨_, rfl, hl', hm', by simpa using hz, hcell, hwz⟩⟩
  subst e0_10
  have w0 := (show _ from ⟨g0_1, g0_2, g0_3, g0_4, g0_5, g0_7, g0_8, g0_9, g0_10⟩ : (Lit.int .i64 x0_1).wf = true ∧ (Lit.int .u16 x0_2).wf = true ∧ (Lit.int .u32 x0_3).wf = true ∧ (Lit.int .u32 x0_4).wf = true ∧ IntRow .u32 W a0_5 n0_5 c0_5 z0_5 ∧ (Lit.int .u16 x0_7).wf = true ∧ IntRow .u8 W a0_8 n0_8 c0_8 z0_8 ∧ IntRow .u8 W a0_9 n0_9 c0_9 z0_9 ∧ IntRow .u8 W a0_10 n0_10 c0_10 z0_10)
  have k1 := h1
  have lt1 : ∀ x ∈ p1, x.block < W.heap.size := by obtain ⟨m, hm⟩ := k1; exact DataW.trod_lt m _ _ _ hm
  obtain ⟨v1_0, v1_1, v1_2, v1_3, v1_4, v1_5, v1_6, v1_7, v1_8, v1_9, v1_10, y1_0, y1_1, y1_2, y1_3, y1_4, y1_5, y1_6, y1_7, y1_8, y1_9, y1_10, nn1, rfl, t1_0, t1_1, t1_2, t1_3, t1_4, t1_5, t1_6, t1_7, t1_8, t1_9, t1_10⟩ := open_agg11' Try.underlying27 (by kernel_rfl) (by kernel_rfl) (hval 1 27 v1 rfl rfl) h1
  obtain ⟨x1_0, e1_0, _⟩ := DataW.trod_bool Try.underlying4 t1_0
  obtain rfl : v1_0 = .bool x1_0 := by simpa using e1_0
  obtain ⟨x1_1, e1_1, _, g1_1⟩ := DataW.trod_int Try.underlying3 t1_1
  obtain rfl : v1_1 = .int .i64 x1_1 := by simpa using e1_1
  obtain ⟨x1_2, e1_2, _, g1_2⟩ := DataW.trod_int Try.underlying22 t1_2
  obtain rfl : v1_2 = .int .u16 x1_2 := by simpa using e1_2
  obtain ⟨x1_3, e1_3, _, g1_3⟩ := DataW.trod_int Try.underlying23 t1_3
  obtain rfl : v1_3 = .int .u32 x1_3 := by simpa using e1_3
  obtain ⟨x1_4, e1_4, _, g1_4⟩ := DataW.trod_int Try.underlying23 t1_4
  obtain rfl : v1_4 = .int .u32 x1_4 := by simpa using e1_4
  obtain ⟨a1_5, n1_5, c1_5, z1_5, e1_5, g1_5⟩ : ∃ a n c z, v1_5 = .slice a n c ∧ IntRow .u32 W a n c z := by
    rcases open_ints Try.underlying24 Try.underlying23 (by kernel_rfl) t1_5 with ⟨hcs, _⟩ | ⟨y, l, c, zs, hcs, _, hl', hm', hz, _, hcell, hwz⟩
    · exact ⟨Option.none, 0, 0, [], by simpa using hcs, .inl ⟨rfl, rfl, rfl, rfl⟩⟩
    · exact ⟨some y, l, c, zs, by simpa using hcs, .inr ⟨_, rfl, hl', hm', by simpa using hz, hcell, hwz⟩⟩
  subst e1_5
  obtain ⟨x1_6, e1_6, _⟩ := DataW.trod_bool Try.underlying4 t1_6
  obtain rfl : v1_6 = .bool x1_6 := by simpa using e1_6
  obtain ⟨x1_7, e1_7, _, g1_7⟩ := DataW.trod_int Try.underlying22 t1_7
  obtain rfl : v1_7 = .int .u16 x1_7 := by simpa using e1_7
  obtain ⟨a1_8, n1_8, c1_8, z1_8, e1_8, g1_8⟩ : ∃ a n c z, v1_8 = .slice a n c ∧ IntRow .u8 W a n c z := by
    rcases open_ints Try.underlying25 Try.underlying5 (by kernel_rfl) t1_8 with ⟨hcs, _⟩ | ⟨y, l, c, zs, hcs, _, hl', hm', hz, _, hcell, hwz⟩
    · exact ⟨Option.none, 0, 0, [], by simpa using hcs, .inl ⟨rfl, rfl, rfl, rfl⟩⟩
    · exact ⟨some y, l, c, zs, by simpa using hcs, .inr ⟨_, rfl, hl', hm', by simpa using hz, hcell, hwz⟩⟩
  subst e1_8
  obtain ⟨a1_9, n1_9, c1_9, z1_9, e1_9, g1_9⟩ : ∃ a n c z, v1_9 = .slice a n c ∧ IntRow .u8 W a n c z := by
    rcases open_ints Try.underlying25 Try.underlying5 (by kernel_rfl) t1_9 with ⟨hcs, _⟩ | ⟨y, l, c, zs, hcs, _, hl', hm', hz, _, hcell, hwz⟩
    · exact ⟨Option.none, 0, 0, [], by simpa using hcs, .inl ⟨rfl, rfl, rfl, rfl⟩⟩
    · exact ⟨some y, l, c, zs, by simpa using hcs, .inr ⟨_, rfl, hl', hm', by simpa using hz, hcell, hwz⟩⟩
  subst e1_9
  obtain ⟨a1_10, n1_10, c1_10, z1_10, e1_10, g1_10⟩ : ∃ a n c z, v1_10 = .slice a n c ∧ IntRow .u8 W a n c z := by
    rcases open_ints Try.underlying25 Try.underlying5 (by kernel_rfl) t1_10 with ⟨hcs, _⟩ | ⟨y, l, c, zs, hcs, _, hl', hm', hz, _, hcell, hwz⟩
    · exact ⟨Option.none, 0, 0, [], by simpa using hcs, .inl ⟨rfl, rfl, rfl, rfl⟩⟩
    · exact ⟨some y, l, c, zs, by simpa using hcs, .inr ⟨_, rfl, hl', hm', by simpa using hz, hcell, hwz⟩⟩
  subst e1_10
  have w1 := (show _ from ⟨g1_1, g1_2, g1_3, g1_4, g1_5, g1_7, g1_8, g1_9, g1_10⟩ : (Lit.int .i64 x1_1).wf = true ∧ (Lit.int .u16 x1_2).wf = true ∧ (Lit.int .u32 x1_3).wf = true ∧ (Lit.int .u32 x1_4).wf = true ∧ IntRow .u32 W a1_5 n1_5 c1_5 z1_5 ∧ (Lit.int .u16 x1_7).wf = true ∧ IntRow .u8 W a1_8 n1_8 c1_8 z1_8 ∧ IntRow .u8 W a1_9 n1_9 c1_9 z1_9 ∧ IntRow .u8 W a1_10 n1_10 c1_10 z1_10)
  clear hA0 hval0
  refine (walk x0_0 x0_1 x0_2 x0_3 x0_4 a0_5 n0_5 c0_5 z0_5 x0_6 x0_7 a0_8 n0_8 c0_8 z0_8 a0_9 n0_9 c0_9 z0_9 a0_10 n0_10 c0_10 z0_10 x1_0 x1_1 x1_2 x1_3 x1_4 a1_5 n1_5 c1_5 z1_5 x1_6 x1_7 a1_8 n1_8 c1_8 z1_8 a1_9 n1_9 c1_9 z1_9 a1_10 n1_10 c1_10 z1_10 W w0 w1).mono fun e W' ⟨he, bel⟩ => ?_
  subst he
  exact ⟨_, rfl, _, _, _, [], _, [], hW', trodAll_mk1 (shut_bool Try.underlying4 _), (trodAll_cons_mk (Below.trod laidOut (by kernel_rfl) (of_decide_eq_true (by kernel_rfl)) k0 bel lt0) (trodAll_cons_mk (Below.trod laidOut (by kernel_rfl) (of_decide_eq_true (by kernel_rfl)) k1 bel lt1) trodAll_mk0)), rfl, bel.frame _, fun h => by cases h⟩

theorem over : Rows.rtpWritesRow.holds Try.pinned (OpenSpec.ofChange Rows.rtpWritesSpec) :=
  OpenClaim.holds_of_wide 3 Try.f3 rfl rfl rfl rfl rfl rfl rfl ⟨rfl, rfl, rfl, rfl, rfl⟩ rfl rfl rfl rfl rfl (by kernel_rfl) Try.func3 (by kernel_rfl)
    (of_decide_eq_true (by kernel_rfl)) (by unfold Func.isWrapper; first | (rw [if_pos (by decide +kernel)]; kernel_rfl) | (rw [if_neg (by decide +kernel)]; exact ⟨rfl, rfl⟩))
    (fun os started H enc _ => lifted os started H enc)

theorem proved : Rows.RtpWritesSaid := over
#print axioms proved
end Go.Proofs.Ytkoldfoliigifaa.rtpWrites

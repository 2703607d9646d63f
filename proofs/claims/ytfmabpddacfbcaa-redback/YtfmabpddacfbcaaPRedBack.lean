/-
  For every input, the law RedBack returns true, and its arguments read afterwards as before. No condition.
-/
import Derived.Test.YtfmabpddacfbcaaRows
import Derived.Test.YtfmabpddacfbcaaRedBLaw
import Derived.Test.YtfmabpddacfbcaaRtpOpen
import Derived.WalkKit
import Derived.ProofKit
import Derived.OpenShut
import Derived.ShutString
import Derived.ChangeOld
import Derived.Below
import Derived.Deep.Matrix
import Derived.Deep.SlicePairs
import Derived.Lib.SmallJoins
import Derived.Deep.Fields
namespace Go.Proofs.Ytfmabpddacfbcaa.redBack
open Go.ChangeShapes Go.WideShapes Go.ChangeAt Go.RowKit
set_option linter.unusedVariables false
section
variable {H : Type} {enc : TypeId × Value → H} {P : Program} {w : World} {base : Nat} {spare : Nat → Bool} {held : Bool}
theorem open_agg11' {r : Reach} {b0 : Nat} {t : TypeId} {f0 f1 f2 f3 f4 f5 f6 f7 f8 f9 f10 : Field} {v : Value} {d : DataW H} {p : List MemPlace} (hs : P.underlying t = some (.struct #[f0, f1, f2, f3, f4, f5, f6, f7, f8, f9, f10])) (hone : Go.Deep.oneCellFields P #[f0, f1, f2, f3, f4, f5, f6, f7, f8, f9, f10] = true) (hC : P.cellsOf t = 11)
    (hv : Value.okWide P w r b0 t v) (h : DataW.Trod enc P w base spare held t v d p) :
    ∃ (v0 v1 v2 v3 v4 v5 v6 v7 v8 v9 v10 : Value) (y0 y1 y2 y3 y4 y5 y6 y7 y8 y9 y10 : DataW H × List MemPlace) (n : Nat), v = .agg #[v0, v1, v2, v3, v4, v5, v6, v7, v8, v9, v10] ∧
      DataW.trod enc P w base spare held n f0.type [v0] = some y0 ∧ DataW.trod enc P w base spare held n f1.type [v1] = some y1 ∧ DataW.trod enc P w base spare held n f2.type [v2] = some y2 ∧ DataW.trod enc P w base spare held n f3.type [v3] = some y3 ∧ DataW.trod enc P w base spare held n f4.type [v4] = some y4 ∧ DataW.trod enc P w base spare held n f5.type [v5] = some y5 ∧ DataW.trod enc P w base spare held n f6.type [v6] = some y6 ∧ DataW.trod enc P w base spare held n f7.type [v7] = some y7 ∧ DataW.trod enc P w base spare held n f8.type [v8] = some y8 ∧ DataW.trod enc P w base spare held n f9.type [v9] = some y9 ∧ DataW.trod enc P w base spare held n f10.type [v10] = some y10 := by
  obtain ⟨cs, rfl, hsz⟩ := okWide_struct hs hv
  obtain ⟨l⟩ := cs
  match l, hsz.trans hC with
  | [c0, c1, c2, c3, c4, c5, c6, c7, c8, c9, c10], _ =>
    obtain ⟨fuel, hf⟩ := h
    obtain ⟨xs, n, _, hx, _, hlen, hg⟩ := DataW.trod_struct hs hf
    obtain ⟨o0, k0⟩ := Go.Deep.hone_of hone 0 f0 rfl
    obtain ⟨o1, k1⟩ := Go.Deep.hone_of hone 1 f1 rfl
    obtain ⟨o2, k2⟩ := Go.Deep.hone_of hone 2 f2 rfl
    obtain ⟨o3, k3⟩ := Go.Deep.hone_of hone 3 f3 rfl
    obtain ⟨o4, k4⟩ := Go.Deep.hone_of hone 4 f4 rfl
    obtain ⟨o5, k5⟩ := Go.Deep.hone_of hone 5 f5 rfl
    obtain ⟨o6, k6⟩ := Go.Deep.hone_of hone 6 f6 rfl
    obtain ⟨o7, k7⟩ := Go.Deep.hone_of hone 7 f7 rfl
    obtain ⟨o8, k8⟩ := Go.Deep.hone_of hone 8 f8 rfl
    obtain ⟨o9, k9⟩ := Go.Deep.hone_of hone 9 f9 rfl
    obtain ⟨o10, k10⟩ := Go.Deep.hone_of hone 10 f10 rfl
    match xs, hlen with
    | [y0, y1, y2, y3, y4, y5, y6, y7, y8, y9, y10], _ =>
      exact ⟨c0, c1, c2, c3, c4, c5, c6, c7, c8, c9, c10, y0, y1, y2, y3, y4, y5, y6, y7, y8, y9, y10, n, rfl, by simpa [Value.cells, o0, k0] using hg 0 f0 rfl, by simpa [Value.cells, o1, k1] using hg 1 f1 rfl, by simpa [Value.cells, o2, k2] using hg 2 f2 rfl, by simpa [Value.cells, o3, k3] using hg 3 f3 rfl, by simpa [Value.cells, o4, k4] using hg 4 f4 rfl, by simpa [Value.cells, o5, k5] using hg 5 f5 rfl, by simpa [Value.cells, o6, k6] using hg 6 f6 rfl, by simpa [Value.cells, o7, k7] using hg 7 f7 rfl, by simpa [Value.cells, o8, k8] using hg 8 f8 rfl, by simpa [Value.cells, o9, k9] using hg 9 f9 rfl, by simpa [Value.cells, o10, k10] using hg 10 f10 rfl⟩
end

theorem own : ownKnob Try.prog.godebug = none := by kernel_rfl
theorem laidOut : laidOutB Try.prog = true := by kernel_rfl

theorem walk (a0 : Option Addr) (len0 cap0 : Nat) (P0 O0 : Nat → Int) (A0 : Nat → Option Addr) (L0 C0 : Nat → Nat) (Z0 : Nat → List Int) (a1 : Option Addr) (len1 cap1 : Nat) (z1 : List Int) (x2_0 : Bool) (x2_1 : Int) (x2_2 : Int) (x2_3 : Int) (x2_4 : Int) (a2_5 : Option Addr) (n2_5 c2_5 : Nat) (z2_5 : List Int) (x2_6 : Bool) (x2_7 : Int) (a2_8 : Option Addr) (n2_8 c2_8 : Nat) (z2_8 : List Int) (a2_9 : Option Addr) (n2_9 c2_9 : Nat) (z2_9 : List Int) (a2_10 : Option Addr) (n2_10 c2_10 : Nat) (z2_10 : List Int) (a3 : Int) (w : World) (w0 : BkIn w a0 len0 cap0 P0 O0 A0 L0 C0 Z0) (w1 : IntRow .u8 w a1 len1 cap1 z1) (w2 : (Lit.int .i64 x2_1).wf = true ∧ (Lit.int .u16 x2_2).wf = true ∧ (Lit.int .u32 x2_3).wf = true ∧ (Lit.int .u32 x2_4).wf = true ∧ IntRow .u32 w a2_5 n2_5 c2_5 z2_5 ∧ (Lit.int .u16 x2_7).wf = true ∧ IntRow .u8 w a2_8 n2_8 c2_8 z2_8 ∧ IntRow .u8 w a2_9 n2_9 c2_9 z2_9 ∧ IntRow .u8 w a2_10 n2_10 c2_10 z2_10) (w3 : (Lit.int .i64 a3).wf = true) :
    Calls Try.prog 4 #[.slice a0 len0 cap0, .slice a1 len1 cap1, .agg #[.bool x2_0, .int .i64 x2_1, .int .u16 x2_2, .int .u32 x2_3, .int .u32 x2_4, .slice a2_5 n2_5 c2_5, .bool x2_6, .int .u16 x2_7, .slice a2_8 n2_8 c2_8, .slice a2_9 n2_9 c2_9, .slice a2_10 n2_10 c2_10], .int .i64 a3] w fun e w' => e = .returned (.bool true) ∧ Below w.heap.size w w' := by
  exact (back_in a0 len0 cap0 P0 O0 A0 L0 C0 Z0 a1 len1 cap1 _ ⟨x2_0, x2_1, x2_2, x2_3, x2_4, z2_5.take n2_5, x2_6, x2_7, z2_8.take n2_8, z2_9.take n2_9, z2_10.take n2_10⟩ ⟨a2_5, n2_5, c2_5, a2_8, n2_8, c2_8, a2_9, n2_9, c2_9, a2_10, n2_10, c2_10⟩ a3 w w0 w1.bat.1 w1.bat.2 (pk_rows w2) w2.2.2.2.2.2.2.2.1.bat.2)

set_option maxRecDepth 100000 in
theorem lifted (os : Os) (started : os.Started) (H : Type) (enc : TypeId × Value → H) :
    ReturnsInHanded {} Try.checked os 4 .any (Rows.redBackSpec.pre6 enc Try.prog Try.f4 Rows.redBackRow.domain false) (Rows.redBackSpec.post enc Try.prog Try.f4 false true false false) := by
  refine returnsInHanded_of_change (C := Try.checked) own started (by kernel_rfl) Try.func4
    (ChangeSpec.witness6 (enc := enc) (C := Try.checked) false ⟨#[], #[.slice none 0 0, .slice none 0 0, .agg #[.bool false, .int .i64 0, .int .u16 0, .int .u32 0, .int .u32 0, .slice none 0 0, .bool false, .int .u16 0, .slice none 0 0, .slice none 0 0, .slice none 0 0], .int .i64 0], []⟩ 8 (by kernel_rfl) (by kernel_rfl) (by kernel_rfl) (by kernel_rfl)) ?_
  intro W base args ds gs before hval0 hW hcnd _
  have hval : ∀ (j : Nat) t v, Try.f4.params[j]? = some t → args[j]? = some v → Value.okWide Try.prog W .any base t v := hval0
  have hW' := hW
  obtain ⟨p, q, hA0, hV, rfl, hfz, hnd⟩ := hW
  have hA : DataW.TrodAll enc Try.prog W 0 (fun _ => true) true Try.f4.params.toList args.toList ds p := hA0
  rw [Try.params4] at hA hval
  obtain ⟨v0, vs0, d0, ds0, p0, q0, hargs, rfl, rfl, h0, r0⟩ := trodAll_cons hA
  obtain ⟨v1, vs1, d1, ds1, p1, q1, rfl, rfl, rfl, h1, r1⟩ := trodAll_cons r0
  obtain ⟨v2, vs2, d2, ds2, p2, q2, rfl, rfl, rfl, h2, r2⟩ := trodAll_cons r1
  obtain ⟨v3, vs3, d3, ds3, p3, q3, rfl, rfl, rfl, h3, r3⟩ := trodAll_cons r2
  obtain ⟨rfl, rfl, rfl⟩ := trodAll_nil r3
  obtain rfl : args = #[v0, v1, v2, v3] := by cases args; simp_all
  obtain ⟨rfl, rfl⟩ := trodVars_none hV
  obtain ⟨a0, len0, cap0, rfl⟩ := okWide_slice Try.underlying22 (hval 0 22 v0 rfl rfl)
  have k0 := h0
  have lt0 : ∀ x ∈ p0, x.block < W.heap.size := by obtain ⟨m, hm⟩ := k0; exact DataW.trod_lt m _ _ _ hm
  obtain ⟨P0, O0, A0, L0, C0, Z0, w0⟩ : ∃ P O A L C Z, BkIn W a0 len0 cap0 P O A L C Z := by
    obtain ⟨fuel, hf⟩ := h0
    rcases Go.Deep.open_slice Try.underlying22 hf with ⟨hcs, _⟩ | ⟨x, l, c, m, n, D, Pl, hcs, _, hl, hm, hmm, _, hr⟩
    · simp [Value.cells] at hcs
      obtain ⟨rfl, rfl, rfl⟩ := hcs
      exact ⟨fun _ => 0, fun _ => 0, fun _ => Option.none, fun _ => 0, fun _ => 0, fun _ => [], .inl ⟨rfl, rfl, rfl⟩⟩
    · simp [Value.cells] at hcs
      obtain ⟨rfl, rfl, rfl⟩ := hcs
      simp only [if_true] at hmm
      rw [hmm] at hr
      have each : ∀ r, r < cap0 → ∃ q : Int × Int × Option Addr × Nat × Nat × List Int, (W.cell? (x.add (r * 3)) = some (.int .i64 q.1) ∧ (Lit.int .i64 q.1).wf = true) ∧ (W.cell? (x.add (r * 3 + 1)) = some (.int .i64 q.2.1) ∧ (Lit.int .i64 q.2.1).wf = true) ∧
          W.cell? (x.add (r * 3 + 2)) = some (.slice q.2.2.1 q.2.2.2.1 q.2.2.2.2.1) ∧ IntRow .u8 W q.2.2.1 q.2.2.2.1 q.2.2.2.2.1 q.2.2.2.2.2 := by
        intro r hr'
        obtain ⟨cs', h1, h2⟩ := hr r hr'
        rw [show Try.prog.cellsOf 50 = 3 by kernel_rfl] at h1
        obtain ⟨_, hlen, hcell⟩ := World.cells?_some h1
        obtain ⟨xs, k, hk, hxy, _, hxl, hf⟩ := DataW.trod_struct Try.underlying50 h2
        match cs', hlen, xs, hxl with
        | [v0, v1, v2], _, [y0, y1, y2], _ =>
          have g0 := hf 0 _ rfl
          have g1 := hf 1 _ rfl
          have g2 := hf 2 _ rfl
          obtain ⟨z0, e0, _, n0⟩ := DataW.trod_int Try.underlying3 (show DataW.trod enc Try.prog W 0 (fun _ => true) true k 3 [v0] = some y0 from by simpa [show Try.prog.cellsOf 3 = 1 by kernel_rfl] using g0)
          obtain ⟨z1, e1, _, n1⟩ := DataW.trod_int Try.underlying3 (show DataW.trod enc Try.prog W 0 (fun _ => true) true k 3 [v1] = some y1 from by simpa [show Try.prog.cellsOf 3 = 1 by kernel_rfl] using g1)
          have c0 := hcell 0 (by omega)
          have c1 := hcell 1 (by omega)
          have c2 := hcell 2 (by omega)
          rw [Go.Deep.add_add] at c0 c1 c2
          simp only [List.cons.injEq, and_true] at e0 e1
          subst e0 e1
          rcases open_ints Try.underlying25 Try.underlying5 (by kernel_rfl) (show DataW.trod enc Try.prog W 0 (fun _ => true) true k 25 [v2] = some y2 from by simpa [show Try.prog.cellsOf 25 = 1 by kernel_rfl] using g2) with ⟨hcs, _⟩ | ⟨y, l, c, zs, hcs, _, hl', hm', hz, _, hcell', hwz⟩
          · simp only [List.cons.injEq, and_true] at hcs
            exact ⟨(z0, z1, Option.none, 0, 0, []), ⟨by simpa using c0, n0⟩, ⟨by simpa using c1, n1⟩, by simpa [hcs] using c2, .inl ⟨rfl, rfl, rfl, rfl⟩⟩
          · simp only [List.cons.injEq, and_true] at hcs
            exact ⟨(z0, z1, some y, l, c, zs), ⟨by simpa using c0, n0⟩, ⟨by simpa using c1, n1⟩, by simpa [hcs] using c2, .inr ⟨_, rfl, hl', hm', by simpa using hz, hcell', hwz⟩⟩
      obtain ⟨f, hf'⟩ := Go.Deep.choose_lt each
      exact ⟨fun r => (f r).1, fun r => (f r).2.1, fun r => (f r).2.2.1, fun r => (f r).2.2.2.1, fun r => (f r).2.2.2.2.1, fun r => (f r).2.2.2.2.2, .inr ⟨_, rfl, hl, hm, hf'⟩⟩
  obtain ⟨a1, len1, cap1, rfl⟩ := okWide_slice Try.underlying25 (hval 1 25 v1 rfl rfl)
  have k1 := h1
  have lt1 : ∀ x ∈ p1, x.block < W.heap.size := by obtain ⟨m, hm⟩ := k1; exact DataW.trod_lt m _ _ _ hm
  obtain ⟨z1, w1⟩ : ∃ zs, IntRow .u8 W a1 len1 cap1 zs := by
    obtain ⟨fuel, hf⟩ := h1
    rcases open_ints Try.underlying25 Try.underlying5 (by kernel_rfl) hf with ⟨hcs, _⟩ | ⟨x, l, c, zs, hcs, _, hl, hm, hz, _, hcell, hwz⟩
    · simp [Value.cells] at hcs
      obtain ⟨rfl, rfl, rfl⟩ := hcs
      exact ⟨[], .inl ⟨rfl, rfl, rfl, rfl⟩⟩
    · simp [Value.cells] at hcs
      obtain ⟨rfl, rfl, rfl⟩ := hcs
      exact ⟨zs, .inr ⟨_, rfl, hl, hm, by simpa using hz, hcell, hwz⟩⟩
  have k2 := h2
  have lt2 : ∀ x ∈ p2, x.block < W.heap.size := by obtain ⟨m, hm⟩ := k2; exact DataW.trod_lt m _ _ _ hm
  obtain ⟨v2_0, v2_1, v2_2, v2_3, v2_4, v2_5, v2_6, v2_7, v2_8, v2_9, v2_10, y2_0, y2_1, y2_2, y2_3, y2_4, y2_5, y2_6, y2_7, y2_8, y2_9, y2_10, nn2, rfl, t2_0, t2_1, t2_2, t2_3, t2_4, t2_5, t2_6, t2_7, t2_8, t2_9, t2_10⟩ := open_agg11' Try.underlying36 (by kernel_rfl) (by kernel_rfl) (hval 2 36 v2 rfl rfl) h2
  obtain ⟨x2_0, e2_0, _⟩ := DataW.trod_bool Try.underlying4 t2_0
  obtain rfl : v2_0 = .bool x2_0 := by simpa using e2_0
  obtain ⟨x2_1, e2_1, _, g2_1⟩ := DataW.trod_int Try.underlying3 t2_1
  obtain rfl : v2_1 = .int .i64 x2_1 := by simpa using e2_1
  obtain ⟨x2_2, e2_2, _, g2_2⟩ := DataW.trod_int Try.underlying32 t2_2
  obtain rfl : v2_2 = .int .u16 x2_2 := by simpa using e2_2
  obtain ⟨x2_3, e2_3, _, g2_3⟩ := DataW.trod_int Try.underlying33 t2_3
  obtain rfl : v2_3 = .int .u32 x2_3 := by simpa using e2_3
  obtain ⟨x2_4, e2_4, _, g2_4⟩ := DataW.trod_int Try.underlying33 t2_4
  obtain rfl : v2_4 = .int .u32 x2_4 := by simpa using e2_4
  obtain ⟨a2_5, n2_5, c2_5, z2_5, e2_5, g2_5⟩ : ∃ a n c z, v2_5 = .slice a n c ∧ IntRow .u32 W a n c z := by
    rcases open_ints Try.underlying34 Try.underlying33 (by kernel_rfl) t2_5 with ⟨hcs, _⟩ | ⟨y, l, c, zs, hcs, _, hl', hm', hz, _, hcell, hwz⟩
    · exact ⟨Option.none, 0, 0, [], by simpa using hcs, .inl ⟨rfl, rfl, rfl, rfl⟩⟩
    · exact ⟨some y, l, c, zs, by simpa using hcs, .inr ⟨_, rfl, hl', hm', by simpa using hz, hcell, hwz⟩⟩
  subst e2_5
  obtain ⟨x2_6, e2_6, _⟩ := DataW.trod_bool Try.underlying4 t2_6
  obtain rfl : v2_6 = .bool x2_6 := by simpa using e2_6
  obtain ⟨x2_7, e2_7, _, g2_7⟩ := DataW.trod_int Try.underlying32 t2_7
  obtain rfl : v2_7 = .int .u16 x2_7 := by simpa using e2_7
  obtain ⟨a2_8, n2_8, c2_8, z2_8, e2_8, g2_8⟩ : ∃ a n c z, v2_8 = .slice a n c ∧ IntRow .u8 W a n c z := by
    rcases open_ints Try.underlying25 Try.underlying5 (by kernel_rfl) t2_8 with ⟨hcs, _⟩ | ⟨y, l, c, zs, hcs, _, hl', hm', hz, _, hcell, hwz⟩
    · exact ⟨Option.none, 0, 0, [], by simpa using hcs, .inl ⟨rfl, rfl, rfl, rfl⟩⟩
    · exact ⟨some y, l, c, zs, by simpa using hcs, .inr ⟨_, rfl, hl', hm', by simpa using hz, hcell, hwz⟩⟩
  subst e2_8
  obtain ⟨a2_9, n2_9, c2_9, z2_9, e2_9, g2_9⟩ : ∃ a n c z, v2_9 = .slice a n c ∧ IntRow .u8 W a n c z := by
    rcases open_ints Try.underlying25 Try.underlying5 (by kernel_rfl) t2_9 with ⟨hcs, _⟩ | ⟨y, l, c, zs, hcs, _, hl', hm', hz, _, hcell, hwz⟩
    · exact ⟨Option.none, 0, 0, [], by simpa using hcs, .inl ⟨rfl, rfl, rfl, rfl⟩⟩
    · exact ⟨some y, l, c, zs, by simpa using hcs, .inr ⟨_, rfl, hl', hm', by simpa using hz, hcell, hwz⟩⟩
  subst e2_9
  obtain ⟨a2_10, n2_10, c2_10, z2_10, e2_10, g2_10⟩ : ∃ a n c z, v2_10 = .slice a n c ∧ IntRow .u8 W a n c z := by
    rcases open_ints Try.underlying25 Try.underlying5 (by kernel_rfl) t2_10 with ⟨hcs, _⟩ | ⟨y, l, c, zs, hcs, _, hl', hm', hz, _, hcell, hwz⟩
    · exact ⟨Option.none, 0, 0, [], by simpa using hcs, .inl ⟨rfl, rfl, rfl, rfl⟩⟩
    · exact ⟨some y, l, c, zs, by simpa using hcs, .inr ⟨_, rfl, hl', hm', by simpa using hz, hcell, hwz⟩⟩
  subst e2_10
  have w2 := (show _ from ⟨g2_1, g2_2, g2_3, g2_4, g2_5, g2_7, g2_8, g2_9, g2_10⟩ : (Lit.int .i64 x2_1).wf = true ∧ (Lit.int .u16 x2_2).wf = true ∧ (Lit.int .u32 x2_3).wf = true ∧ (Lit.int .u32 x2_4).wf = true ∧ IntRow .u32 W a2_5 n2_5 c2_5 z2_5 ∧ (Lit.int .u16 x2_7).wf = true ∧ IntRow .u8 W a2_8 n2_8 c2_8 z2_8 ∧ IntRow .u8 W a2_9 n2_9 c2_9 z2_9 ∧ IntRow .u8 W a2_10 n2_10 c2_10 z2_10)
  obtain ⟨a3, rfl, rfl, rfl, w3⟩ := open_int Try.underlying3 (hval 3 3 v3 rfl rfl) h3
  clear hA0 hval0
  refine (walk a0 len0 cap0 P0 O0 A0 L0 C0 Z0 a1 len1 cap1 z1 x2_0 x2_1 x2_2 x2_3 x2_4 a2_5 n2_5 c2_5 z2_5 x2_6 x2_7 a2_8 n2_8 c2_8 z2_8 a2_9 n2_9 c2_9 z2_9 a2_10 n2_10 c2_10 z2_10 a3 W w0 w1 w2 w3).mono fun e W' ⟨he, bel⟩ => ?_
  subst he
  exact ⟨_, rfl, _, _, _, [], _, [], hW', trodAll_mk1 (shut_bool Try.underlying4 _), (trodAll_cons_mk (Below.trod laidOut (by kernel_rfl) (of_decide_eq_true (by kernel_rfl)) k0 bel lt0) (trodAll_cons_mk (Below.trod laidOut (by kernel_rfl) (of_decide_eq_true (by kernel_rfl)) k1 bel lt1) (trodAll_cons_mk (Below.trod laidOut (by kernel_rfl) (of_decide_eq_true (by kernel_rfl)) k2 bel lt2) (trodAll_cons_mk (shut_int Try.underlying3 w3) trodAll_mk0)))), rfl, bel.frame _, fun h => by cases h⟩

theorem over : Rows.redBackRow.holds Try.pinned (OpenSpec.ofChange Rows.redBackSpec) :=
  OpenClaim.holds_of_wide 4 Try.f4 rfl rfl rfl rfl rfl rfl rfl ⟨rfl, rfl, rfl, rfl, rfl⟩ rfl rfl rfl rfl rfl (by kernel_rfl) Try.func4 (by kernel_rfl)
    (of_decide_eq_true (by kernel_rfl)) (by unfold Func.isWrapper; first | (rw [if_pos (by decide +kernel)]; kernel_rfl) | (rw [if_neg (by decide +kernel)]; exact ⟨rfl, rfl⟩))
    (fun os started H enc _ => lifted os started H enc)

theorem proved : Rows.RedBackSaid := over
#print axioms proved
end Go.Proofs.Ytfmabpddacfbcaa.redBack

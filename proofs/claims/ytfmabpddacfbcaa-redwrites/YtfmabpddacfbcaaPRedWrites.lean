/-
  For every input, the law RedWrites returns true, and its arguments read afterwards as before. No condition.
-/
import Derived.Test.YtfmabpddacfbcaaRows
import Derived.Test.YtfmabpddacfbcaaRedWLaw
import Derived.WalkKit
import Derived.ProofKit
import Derived.OpenShut
import Derived.ShutString
import Derived.ChangeOld
import Derived.Below
import Derived.Deep.Matrix
import Derived.Deep.SlicePairs
import Derived.Lib.SmallJoins
import Derived.Deep.Fields
namespace Go.Proofs.Ytfmabpddacfbcaa.redWrites
open Go.ChangeShapes Go.WideShapes Go.ChangeAt Go.RowKit
set_option linter.unusedVariables false

theorem own : ownKnob Try.prog.godebug = none := by kernel_rfl
theorem laidOut : laidOutB Try.prog = true := by kernel_rfl

theorem walk (a0 : Option Addr) (len0 cap0 : Nat) (P0 O0 : Nat → Int) (A0 : Nat → Option Addr) (L0 C0 : Nat → Nat) (Z0 : Nat → List Int) (w : World) (w0 : BkIn w a0 len0 cap0 P0 O0 A0 L0 C0 Z0) :
    Calls Try.prog 3 #[.slice a0 len0 cap0] w fun e w' => e = .returned (.bool true) ∧ Below w.heap.size w w' := by
  exact (writes_in a0 len0 cap0 P0 O0 A0 L0 C0 Z0 w w0)

set_option maxRecDepth 100000 in
theorem lifted (os : Os) (started : os.Started) (H : Type) (enc : TypeId × Value → H) :
    ReturnsInHanded {} Try.checked os 3 .any (Rows.redWritesSpec.pre6 enc Try.prog Try.f3 Rows.redWritesRow.domain false) (Rows.redWritesSpec.post enc Try.prog Try.f3 false true false false) := by
  refine returnsInHanded_of_change (C := Try.checked) own started (by kernel_rfl) Try.func3
    (ChangeSpec.witness6 (enc := enc) (C := Try.checked) false ⟨#[], #[.slice none 0 0], []⟩ 8 (by kernel_rfl) (by kernel_rfl) (by kernel_rfl) (by kernel_rfl)) ?_
  intro W base args ds gs before hval0 hW hcnd _
  have hval : ∀ (j : Nat) t v, Try.f3.params[j]? = some t → args[j]? = some v → Value.okWide Try.prog W .any base t v := hval0
  have hW' := hW
  obtain ⟨p, q, hA0, hV, rfl, hfz, hnd⟩ := hW
  have hA : DataW.TrodAll enc Try.prog W 0 (fun _ => true) true Try.f3.params.toList args.toList ds p := hA0
  rw [Try.params3] at hA hval
  obtain ⟨v0, vs0, d0, ds0, p0, q0, hargs, rfl, rfl, h0, r0⟩ := trodAll_cons hA
  obtain ⟨rfl, rfl, rfl⟩ := trodAll_nil r0
  obtain rfl : args = #[v0] := by cases args; simp_all
  obtain ⟨rfl, rfl⟩ := trodVars_none hV
  obtain ⟨a0, len0, cap0, rfl⟩ := okWide_slice Try.underlying22 (hval 0 22 v0 rfl rfl)
  have k0 := h0
  have lt0 : ∀ x ∈ p0, x.block < W.heap.size := by obtain ⟨m, hm⟩ := k0; exact DataW.trod_lt m _ _ _ hm
  obtain ⟨P0, O0, A0, L0, C0, Z0, w0⟩ : ∃ P O A L C Z, BkIn W a0 len0 cap0 P O A L C Z := by
    obtain ⟨fuel, hf⟩ := h0
    rcases Go.Deep.open_slice Try.underlying22 hf with ⟨hcs, _⟩ | ⟨x, l, c, m, n, D, Pl, hcs, _, hl, hm, hmm, _, hr⟩
    · simp [Value.cells] at hcs
      obtain ⟨rfl, rfl, rfl⟩ := hcs
      exact ⟨fun _ => 0, fun _ => 0, fun _ => Option.none, fun _ => 0, fun _ => 0, fun _ => [], .inl ⟨rfl, rfl, rfl⟩⟩
    · simp [Value.cells] at hcs
      obtain ⟨rfl, rfl, rfl⟩ := hcs
      simp only [if_true] at hmm
      rw [hmm] at hr
      have each : ∀ r, r < cap0 → ∃ q : Int × Int × Option Addr × Nat × Nat × List Int, (W.cell? (x.add (r * 3)) = some (.int .i64 q.1) ∧ (Lit.int .i64 q.1).wf = true) ∧ (W.cell? (x.add (r * 3 + 1)) = some (.int .i64 q.2.1) ∧ (Lit.int .i64 q.2.1).wf = true) ∧
          W.cell? (x.add (r * 3 + 2)) = some (.slice q.2.2.1 q.2.2.2.1 q.2.2.2.2.1) ∧ IntRow .u8 W q.2.2.1 q.2.2.2.1 q.2.2.2.2.1 q.2.2.2.2.2 := by
        intro r hr'
        obtain ⟨cs', h1, h2⟩ := hr r hr'
        rw [show Try.prog.cellsOf 50 = 3 by kernel_rfl] at h1
        obtain ⟨_, hlen, hcell⟩ := World.cells?_some h1
        obtain ⟨xs, k, hk, hxy, _, hxl, hf⟩ := DataW.trod_struct Try.underlying50 h2
        match cs', hlen, xs, hxl with
        | [v0, v1, v2], _, [y0, y1, y2], _ =>
          have g0 := hf 0 _ rfl
          have g1 := hf 1 _ rfl
          have g2 := hf 2 _ rfl
          obtain ⟨z0, e0, _, n0⟩ := DataW.trod_int Try.underlying3 (show DataW.trod enc Try.prog W 0 (fun _ => true) true k 3 [v0] = some y0 from by simpa [show Try.prog.cellsOf 3 = 1 by kernel_rfl] using g0)
          obtain ⟨z1, e1, _, n1⟩ := DataW.trod_int Try.underlying3 (show DataW.trod enc Try.prog W 0 (fun _ => true) true k 3 [v1] = some y1 from by simpa [show Try.prog.cellsOf 3 = 1 by kernel_rfl] using g1)
          have c0 := hcell 0 (by omega)
          have c1 := hcell 1 (by omega)
          have c2 := hcell 2 (by omega)
          rw [Go.Deep.add_add] at c0 c1 c2
          simp only [List.cons.injEq, and_true] at e0 e1
          subst e0 e1
          rcases open_ints Try.underlying25 Try.underlying5 (by kernel_rfl) (show DataW.trod enc Try.prog W 0 (fun _ => true) true k 25 [v2] = some y2 from by simpa [show Try.prog.cellsOf 25 = 1 by kernel_rfl] using g2) with ⟨hcs, _⟩ | ⟨y, l, c, zs, hcs, _, hl', hm', hz, _, hcell', hwz⟩
          · simp only [List.cons.injEq, and_true] at hcs
            exact ⟨(z0, z1, Option.none, 0, 0, []), ⟨by simpa using c0, n0⟩, ⟨by simpa using c1, n1⟩, by simpa [hcs] using c2, .inl ⟨rfl, rfl, rfl, rfl⟩⟩
          · simp only [List.cons.injEq, and_true] at hcs
            exact ⟨(z0, z1, some y, l, c, zs), ⟨by simpa using c0, n0⟩, ⟨by simpa using c1, n1⟩, by simpa [hcs] using c2, .inr ⟨_, rfl, hl', hm', by simpa using hz, hcell', hwz⟩⟩
      obtain ⟨f, hf'⟩ := Go.Deep.choose_lt each
      exact ⟨fun r => (f r).1, fun r => (f r).2.1, fun r => (f r).2.2.1, fun r => (f r).2.2.2.1, fun r => (f r).2.2.2.2.1, fun r => (f r).2.2.2.2.2, .inr ⟨_, rfl, hl, hm, hf'⟩⟩
  clear hA0 hval0
  refine (walk a0 len0 cap0 P0 O0 A0 L0 C0 Z0 W w0).mono fun e W' ⟨he, bel⟩ => ?_
  subst he
  exact ⟨_, rfl, _, _, _, [], _, [], hW', trodAll_mk1 (shut_bool Try.underlying4 _), (trodAll_cons_mk (Below.trod laidOut (by kernel_rfl) (of_decide_eq_true (by kernel_rfl)) k0 bel lt0) trodAll_mk0), rfl, bel.frame _, fun h => by cases h⟩

theorem over : Rows.redWritesRow.holds Try.pinned (OpenSpec.ofChange Rows.redWritesSpec) :=
  OpenClaim.holds_of_wide 3 Try.f3 rfl rfl rfl rfl rfl rfl rfl ⟨rfl, rfl, rfl, rfl, rfl⟩ rfl rfl rfl rfl rfl (by kernel_rfl) Try.func3 (by kernel_rfl)
    (of_decide_eq_true (by kernel_rfl)) (by unfold Func.isWrapper; first | (rw [if_pos (by decide +kernel)]; kernel_rfl) | (rw [if_neg (by decide +kernel)]; exact ⟨rfl, rfl⟩))
    (fun os started H enc _ => lifted os started H enc)

theorem proved : Rows.RedWritesSaid := over
#print axioms proved
end Go.Proofs.Ytfmabpddacfbcaa.redWrites

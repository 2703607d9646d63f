/-
  For every input, the law ReportPlays returns true, and its arguments read afterwards as before. No condition.
-/
import Derived.Test.YtpannhbmelcpfabRows
import Derived.Test.YtpannhbmelcpfabRepPlays
import Derived.WalkKit
import Derived.ProofKit
import Derived.OpenShut
import Derived.ShutString
import Derived.ChangeOld
import Derived.Below
import Derived.Deep.Matrix
import Derived.Deep.SlicePairs
import Derived.Lib.SmallJoins
import Derived.Deep.Fields
namespace Go.Proofs.Ytpannhbmelcpfab.reportPlays
open Go.ChangeShapes Go.WideShapes Go.ChangeAt Go.RowKit
set_option linter.unusedVariables false

theorem own : ownKnob Try.prog.godebug = none := by kernel_rfl
theorem laidOut : laidOutB Try.prog = true := by kernel_rfl

theorem walk (a0 : Option Addr) (len0 cap0 : Nat) (X0_0 X0_1 X0_2 : Nat → Int) (a1 : Int) (w : World) (w0 : StructsIn w a0 len0 cap0 [(.u16, X0_0), (.u32, X0_1), (.i64, X0_2)]) (w1 : (Lit.int .u32 a1).wf = true) :
    Calls Try.prog 7 #[.slice a0 len0 cap0, .int .u32 a1] w fun e w' => e = .returned (.bool true) ∧ Below w.heap.size w w' := by
  exact (walk_ReportPlays a0 len0 cap0 X0_0 X0_1 X0_2 a1 w w0)

set_option maxRecDepth 100000 in
theorem lifted (os : Os) (started : os.Started) (H : Type) (enc : TypeId × Value → H) :
    ReturnsInHanded {} Try.checked os 7 .any (Rows.reportPlaysSpec.pre6 enc Try.prog Try.f7 Rows.reportPlaysRow.domain false) (Rows.reportPlaysSpec.post enc Try.prog Try.f7 false true false false) := by
  refine returnsInHanded_of_change (C := Try.checked) own started (by kernel_rfl) Try.func7
    (ChangeSpec.witness6 (enc := enc) (C := Try.checked) false ⟨#[], #[.slice none 0 0, .int .u32 0], []⟩ 8 (by kernel_rfl) (by kernel_rfl) (by kernel_rfl) (by kernel_rfl)) ?_
  intro W base args ds gs before hval0 hW hcnd _
  have hval : ∀ (j : Nat) t v, Try.f7.params[j]? = some t → args[j]? = some v → Value.okWide Try.prog W .any base t v := hval0
  have hW' := hW
  obtain ⟨p, q, hA0, hV, rfl, hfz, hnd⟩ := hW
  have hA : DataW.TrodAll enc Try.prog W 0 (fun _ => true) true Try.f7.params.toList args.toList ds p := hA0
  rw [Try.params7] at hA hval
  obtain ⟨v0, vs0, d0, ds0, p0, q0, hargs, rfl, rfl, h0, r0⟩ := trodAll_cons hA
  obtain ⟨v1, vs1, d1, ds1, p1, q1, rfl, rfl, rfl, h1, r1⟩ := trodAll_cons r0
  obtain ⟨rfl, rfl, rfl⟩ := trodAll_nil r1
  obtain rfl : args = #[v0, v1] := by cases args; simp_all
  obtain ⟨rfl, rfl⟩ := trodVars_none hV
  obtain ⟨a0, len0, cap0, rfl⟩ := okWide_slice Try.underlying61 (hval 0 61 v0 rfl rfl)
  have k0 := h0
  have lt0 : ∀ x ∈ p0, x.block < W.heap.size := by obtain ⟨m, hm⟩ := k0; exact DataW.trod_lt m _ _ _ hm
  obtain ⟨X0_0, X0_1, X0_2, w0⟩ : ∃ X0_0 X0_1 X0_2 : Nat → Int, StructsIn W a0 len0 cap0 [(.u16, X0_0), (.u32, X0_1), (.i64, X0_2)] := by
    obtain ⟨fuel, hf⟩ := h0
    rcases Go.Deep.open_slice Try.underlying61 hf with ⟨hcs, _⟩ | ⟨x, l, c, m, n, D, Pl, hcs, _, hl, hm, hmm, _, hr⟩
    · simp [Value.cells] at hcs
      obtain ⟨rfl, rfl, rfl⟩ := hcs
      exact ⟨fun _ => 0, fun _ => 0, fun _ => 0, .inl ⟨rfl, rfl, rfl⟩⟩
    · simp [Value.cells] at hcs
      obtain ⟨rfl, rfl, rfl⟩ := hcs
      simp only [if_true] at hmm
      rw [hmm] at hr
      have each : ∀ r, r < cap0 → ∃ q : Int × Int × Int, W.cell? (x.add (r * 3 + 0)) = some (.int .u16 q.1) ∧ (Lit.int .u16 q.1).wf = true ∧ W.cell? (x.add (r * 3 + 1)) = some (.int .u32 q.2.1) ∧ (Lit.int .u32 q.2.1).wf = true ∧ W.cell? (x.add (r * 3 + 2)) = some (.int .i64 q.2.2) ∧ (Lit.int .i64 q.2.2).wf = true := by
        intro r hr'
        obtain ⟨cs', h1, h2⟩ := hr r hr'
        rw [show Try.prog.cellsOf 71 = 3 by kernel_rfl] at h1
        obtain ⟨_, hlen, hcell⟩ := World.cells?_some h1
        obtain ⟨xs, k, hk, hxy, _, hxl, hf⟩ := DataW.trod_struct Try.underlying71 h2
        match cs', hlen, xs, hxl with
        | [v0, v1, v2], _, [y0, y1, y2], _ =>
          have g0 := hf 0 _ rfl
          obtain ⟨z0, e0, _, n0⟩ := DataW.trod_int Try.underlying69 (show DataW.trod enc Try.prog W 0 (fun _ => true) true k 69 [v0] = some y0 from by simpa [show Try.prog.cellsOf 69 = 1 by kernel_rfl] using g0)
          have c0 := hcell 0 (by omega)
          rw [Go.Deep.add_add] at c0
          simp only [List.cons.injEq, and_true] at e0
          subst e0
          have g1 := hf 1 _ rfl
          obtain ⟨z1, e1, _, n1⟩ := DataW.trod_int Try.underlying23 (show DataW.trod enc Try.prog W 0 (fun _ => true) true k 23 [v1] = some y1 from by simpa [show Try.prog.cellsOf 23 = 1 by kernel_rfl] using g1)
          have c1 := hcell 1 (by omega)
          rw [Go.Deep.add_add] at c1
          simp only [List.cons.injEq, and_true] at e1
          subst e1
          have g2 := hf 2 _ rfl
          obtain ⟨z2, e2, _, n2⟩ := DataW.trod_int Try.underlying2 (show DataW.trod enc Try.prog W 0 (fun _ => true) true k 2 [v2] = some y2 from by simpa [show Try.prog.cellsOf 2 = 1 by kernel_rfl] using g2)
          have c2 := hcell 2 (by omega)
          rw [Go.Deep.add_add] at c2
          simp only [List.cons.injEq, and_true] at e2
          subst e2
          exact ⟨(z0, z1, z2), by simpa using c0, n0, by simpa using c1, n1, by simpa using c2, n2⟩
      obtain ⟨f, hf'⟩ := Go.Deep.choose_lt each
      refine ⟨fun r => (f r).1, fun r => (f r).2.1, fun r => (f r).2.2, .inr ⟨_, rfl, hl, hm, fun r hr' => ?_⟩⟩
      obtain ⟨c0, n0, c1, n1, c2, n2⟩ := hf' r hr'
      intro j p hj
      match j, hj with
      | 0, hj => simp only [List.getElem?_cons_zero, List.getElem?_cons_succ, Option.some.injEq] at hj; subst hj; exact ⟨c0, n0⟩
      | 1, hj => simp only [List.getElem?_cons_zero, List.getElem?_cons_succ, Option.some.injEq] at hj; subst hj; exact ⟨c1, n1⟩
      | 2, hj => simp only [List.getElem?_cons_zero, List.getElem?_cons_succ, Option.some.injEq] at hj; subst hj; exact ⟨c2, n2⟩
      | j + 3, hj => simp at hj
  obtain ⟨a1, rfl, rfl, rfl, w1⟩ := open_int Try.underlying23 (hval 1 23 v1 rfl rfl) h1
  clear hA0 hval0
  refine (walk a0 len0 cap0 X0_0 X0_1 X0_2 a1 W w0 w1).mono fun e W' ⟨he, bel⟩ => ?_
  subst he
  exact ⟨_, rfl, _, _, _, [], _, [], hW', trodAll_mk1 (shut_bool Try.underlying4 _), (trodAll_cons_mk (Below.trod laidOut (by kernel_rfl) (of_decide_eq_true (by kernel_rfl)) k0 bel lt0) (trodAll_cons_mk (shut_int Try.underlying23 w1) trodAll_mk0)), rfl, bel.frame _, fun h => by cases h⟩

theorem over : Rows.reportPlaysRow.holds Try.pinned (OpenSpec.ofChange Rows.reportPlaysSpec) :=
  OpenClaim.holds_of_wide 7 Try.f7 rfl rfl rfl rfl rfl rfl rfl ⟨rfl, rfl, rfl, rfl, rfl⟩ rfl rfl rfl rfl rfl (by kernel_rfl) Try.func7 (by kernel_rfl)
    (of_decide_eq_true (by kernel_rfl)) (by unfold Func.isWrapper; first | (rw [if_pos (by decide +kernel)]; kernel_rfl) | (rw [if_neg (by decide +kernel)]; exact ⟨rfl, rfl⟩))
    (fun os started H enc _ => lifted os started H enc)

theorem proved : Rows.ReportPlaysSaid := over
#print axioms proved
end Go.Proofs.Ytpannhbmelcpfab.reportPlays

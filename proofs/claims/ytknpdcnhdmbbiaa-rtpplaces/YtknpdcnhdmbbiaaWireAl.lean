
/-
  The document's examples of layer 3: alive.
-/
import Derived.Test.YtknpdcnhdmbbiaaWireAl0
import Derived.Lib.SlBytesConst
namespace Go.Proofs.Ytknpdcnhdmbbiaa
open Go.RowKit Go.Shelf
set_option linter.unusedVariables false
theorem lit_bat' {W : World} {g : Nat} {l : List Int} {fr : Nat × Nat} (h : W.heap[g]? = some (.cells (l.map (Value.int .u8)).toArray 5 fr)) (hl : Str.Ok l) (hn : l.length ≤ 9223372036854775807) : BAt W (some ⟨g, 0, none⟩) l.length l := by
  refine ⟨rfl, hn, g, 0, fun i hi => ⟨rfl, (Array.getElem?_eq_some_iff.1 h).1, ?_, hl i⟩⟩
  rw [cell_of_row W g _ _ _ _ h]
  simp [List.getD_eq_getElem?_getD, List.getElem?_eq_getElem hi]
def wAlSt (w : World) (W : World) : Prop := BAt W (some ⟨w.heap.size, 0, none⟩) 3 [1, 2, 3] ∧ Below w.heap.size w W
theorem wAlSt.below {w W W' : World} (h : wAlSt w W) (hb : Below W.heap.size W W') : wAlSt w W' := ⟨h.1.below hb, h.2.trans (hb.mono h.2.size)⟩
theorem ent1 : ∀ args w, (callFunc 37 args).run Try.prog w = .ok (.enter 37 args) w := enters_of Try.func37 (by kernel_rfl) rfl
theorem ent2 : ∀ args w, (callFunc 40 args).run Try.prog w = .ok (.enter 40 args) w := enters_of Try.func40 (by kernel_rfl) rfl
theorem ent3 : ∀ args w, (callFunc 42 args).run Try.prog w = .ok (.enter 42 args) w := enters_of Try.func42 (by kernel_rfl) rfl
theorem ent4 : ∀ args w, (callFunc 44 args).run Try.prog w = .ok (.enter 44 args) w := enters_of Try.func44 (by kernel_rfl) rfl
theorem ent5 : ∀ args w, (callFunc 46 args).run Try.prog w = .ok (.enter 46 args) w := enters_of Try.func46 (by kernel_rfl) rfl
theorem ent6 : ∀ args w, (callFunc 47 args).run Try.prog w = .ok (.enter 47 args) w := enters_of Try.func47 (by kernel_rfl) rfl
def IsRet (v : Value) (w : World) (e : Ending) (w' : World) : Prop := e = .returned v ∧ Below w.heap.size w w'
theorem r1 (w W : World) (h : wAlSt w W) : Calls Try.prog 36 #[.slice (some ⟨w.heap.size, 0, none⟩) 3 3, .func (.func 37) #[] #[]] W (IsRet (.tuple #[.int .i64 258003, .int .i64 0]) W) := by
  refine (read_ok_int _ 3 3 _ #[] [] (isV (.int .i64 258003)) W (by decide) ⟨fun w => by kernel_rfl, ent1, ?_⟩).mono ?_
  · have := al1 _ _ _ 3 _ _ (part_rd W _ 3 3 _ h.1 (by decide)) rfl; simpa using this
  · rintro e w2 ⟨v, w1, rfl, hv, _, hB, _⟩; have hv : v = .int .i64 258003 := hv; subst hv; exact ⟨rfl, hB⟩
theorem r2 (w W : World) (h : wAlSt w W) : Calls Try.prog 36 #[.slice (some ⟨w.heap.size, 0, none⟩) 3 3, .func (.func 40) #[] #[]] W (IsRet (.tuple #[.int .i64 0, .int .i64 20]) W) := by
  refine (read_fail_int _ 3 3 _ #[] 20 W rfl ⟨fun w => by kernel_rfl, ent2, ?_⟩).mono ?_
  · have := al2 _ _ _ 3 _ _ (part_rd W _ 3 3 _ h.1 (by decide)); simpa using this
  · rintro e w2 ⟨rfl, hB⟩; exact ⟨rfl, hB⟩
theorem r3 (w W : World) (h : wAlSt w W) : Calls Try.prog 36 #[.slice (some ⟨w.heap.size, 0, none⟩) 3 3, .func (.func 42) #[] #[]] W (IsRet (.tuple #[.int .i64 0, .int .i64 22]) W) := by
  refine (read_more_int _ 3 3 _ #[] 1 [3] (isV (.int .i64 258)) W (by decide) (by decide) (by decide) ⟨fun w => by kernel_rfl, ent3, ?_⟩).mono ?_
  · have := al3 _ _ _ 3 _ _ (part_rd W _ 3 3 _ h.1 (by decide)) rfl; simpa using this
  · rintro e w2 ⟨rfl, hB⟩; exact ⟨rfl, hB⟩
theorem r4 (w W : World) (h : wAlSt w W) : Calls Try.prog 43 #[.slice (some ⟨w.heap.size, 0, none⟩) 3 3, .func (.func 44) #[] #[]] W (IsRet (.tuple #[.int .i64 1, .int .i64 1, .int .i64 0]) W) := by
  refine (part_ok_int _ 3 3 _ #[] 2 1 [2, 3] (isV (.int .i64 1)) W (by decide) rfl ⟨fun w => by kernel_rfl, ent4, ?_⟩).mono ?_
  · have := al4 _ _ _ 3 3 _ _ (part_rd W _ 3 3 _ h.1 (by decide)) (by decide); simpa using this
  · rintro e w2 ⟨v, w1, rfl, hv, _, hB, _⟩; have hv : v = .int .i64 1 := hv; subst hv; exact ⟨rfl, hB⟩
def Each3 (w : World) (e : Ending) (w' : World) : Prop := ∃ g c, e = .returned (.tuple #[.slice (some ⟨g, 0, none⟩) 3 c, .int .i64 0]) ∧ w'.cell? ⟨g, 2, none⟩ = some (.int .i64 3) ∧ g < w'.heap.size ∧ Below w.heap.size w w'
theorem r5 (w W : World) (h : wAlSt w W) : Calls Try.prog 45 #[.slice (some ⟨w.heap.size, 0, none⟩) 3 3, .int .i64 3, .func (.func 46) #[] #[]] W (Each3 W) := by
  refine (each_bytes 46 (fun R U a n c l w h h0 => al5 R U a n c l w h h0) (fun w => by kernel_rfl) ent5 _ 3 3 [1, 2, 3] 3 W h.1 (by decide) (by decide) (by decide)).mono ?_
  intro e w2 he
  unfold EachPost at he
  rw [if_pos (by decide)] at he
  obtain ⟨a, c, rfl, ho, hB⟩ := he
  rcases ho.2 with ⟨_, h0⟩ | ⟨g, cap, cur, hv, _, hg, _⟩
  · cases h0
  · simp only [Value.slice.injEq, true_and] at hv
    obtain ⟨rfl, rfl⟩ := hv
    exact ⟨g, _, rfl, ho.cellAt 2 (by decide), (Array.getElem?_eq_some_iff.1 hg).1, hB⟩
theorem r6 (w W : World) (h : wAlSt w W) : Calls Try.prog 45 #[.slice (some ⟨w.heap.size, 0, none⟩) 3 3, .int .i64 2, .func (.func 47) #[] #[]] W (IsRet (.tuple #[.slice none 0 0, .int .i64 3]) W) := by
  refine (each_bytes 47 (fun R U a n c l w h h0 => al6 R U a n c l w h h0) (fun w => by kernel_rfl) ent6 _ 3 3 [1, 2, 3] 2 W h.1 (by decide) (by decide) (by decide)).mono ?_
  intro e w2 he
  unfold EachPost at he
  rw [if_neg (by decide)] at he
  exact he
set_option maxHeartbeats 2000000 in
set_option maxRecDepth 100000 in
theorem walive_any (w : World) : Calls Try.prog 10 #[] w (TrueBelow w) := by
  go_enter Try.func10, Try.ntmps10
  go_wp2_with fail
  have HS0 := Lib.hid (show wAlSt w (w.alloc (.cells #[.int .u8 1, .int .u8 2, .int .u8 3] 5)) from ⟨lit_bat (l := [1, 2, 3]) (heap_alloc_new w _) (ok_lit rfl) (by decide), (Below.refl _ w).alloc (Nat.le_refl _) _⟩)
  refine (r1 w _ HS0.out).mono ?_
  rintro e w1 ⟨rfl, hB⟩
  have HS1 := Lib.hid (HS0.out.below hB); clear hB HS0
  go_wp2_with fail
  refine (r2 w _ HS1.out).mono ?_
  rintro e w2 ⟨rfl, hB⟩
  have HS2 := Lib.hid (HS1.out.below hB); clear hB HS1
  go_wp2_with fail
  refine (r3 w _ HS2.out).mono ?_
  rintro e w3 ⟨rfl, hB⟩
  have HS3 := Lib.hid (HS2.out.below hB); clear hB HS2
  go_wp2_with fail
  refine (r4 w _ HS3.out).mono ?_
  rintro e w4 ⟨rfl, hB⟩
  have HS4 := Lib.hid (HS3.out.below hB); clear hB HS3
  go_wp2_with fail
  refine (r5 w _ HS4.out).mono ?_
  rintro e w5 ⟨g5, c5, rfl, hc5, hg5, hB⟩
  have HS5 := Lib.hid (HS4.out.below hB); have HC5 := Lib.hid hc5; clear hB HS4 hc5
  go_wp2_with fail
  refine (r6 w _ HS5.out).mono ?_
  rintro e w6 ⟨rfl, hB⟩
  have HS6 := Lib.hid (HS5.out.below hB); have HC6 := Lib.hid ((hB.cell (p := ⟨g5, 2, none⟩) hg5).trans HC5.out)
  have hg6 : g5 < w6.heap.size := Nat.lt_of_lt_of_le hg5 hB.size
  clear hB HS5 HC5
  go_wp2_with fail
  have hW6 : WrAt (w6.alloc (.cells #[.slice none 0 0] 92)) w6.heap.size w6.heap.size none 0 0 [] := ⟨heap_alloc_new w6 _, ⟨World.ownsRow_nil _ _ _ _, Str.ok_nil⟩, fun x hx => by cases hx⟩
  refine (wbyte_any w6.heap.size w6.heap.size none 0 0 [] 1 _ hW6 (by decide) (by decide) (by decide) (by simp)).mono ?_
  rintro e w7 ⟨rfl, a7, c7, hW7, hK7, hl7⟩
  have hB7 : Below w6.heap.size w6 w7 := ((Below.refl _ w6).alloc (Nat.le_refl _) _).trans (hK7.below (Nat.le_refl _) (fun x e => by cases e) (by simp))
  have hW7 : WrAt w7 w6.heap.size w6.heap.size a7 1 c7 [1] := hW7
  have HW7 := Lib.hid hW7; have HB7 := Lib.hid hB7; clear hW6 hW7 hK7 hl7 hB7
  go_wp2_with fail
  refine (wword_any w6.heap.size w6.heap.size a7 1 c7 [1] 2 _ HW7.out (by decide) (by decide) (by decide) HB7.out.size).mono ?_
  rintro e w8 ⟨rfl, a8, c8, hW8, hK8, hl8⟩
  have hB8 : Below w6.heap.size w6 w8 := HB7.out.trans (hK8.below (Nat.le_refl _) (fun x e => by
    cases a7 with
    | none => cases e
    | some y => have := (HW7.out.own.blk y rfl).1; simp at e; omega) HB7.out.size)
  have hW8 : WrAt w8 w6.heap.size w6.heap.size a8 3 c8 [1, 0, 2] := hW8
  have HW8 := Lib.hid hW8; have HB8 := Lib.hid hB8; clear HW7 hW8 hK8 hl8 HB7 hB8
  have hcv := Lib.run_convert_bytes_const (P := Try.prog) w8 22 5 #[.int .u8 120] 1 1 Try.underlying22 Try.underlying5
  go_wp2_with fail
  have hba := (Below.refl w8.heap.size w8).alloc (Nat.le_refl _) (.cells #[.int .u8 120] 5 (1, 2))
  refine (wput_any w6.heap.size w6.heap.size a8 3 c8 [1, 0, 2] (some ⟨w8.heap.size, 0, none⟩) 1 1 [120] _ (HW8.out.below hba) (lit_bat' (l := [120]) (heap_alloc_new w8 _) (ok_lit rfl) (by decide)) (by decide) (Nat.le_trans HB8.out.size hba.size)).mono ?_
  rintro e w9 ⟨rfl, a9, c9, hW9, hK9, hl9⟩
  have hB9 : Below w6.heap.size w6 w9 := (HB8.out.trans (hba.mono HB8.out.size)).trans (hK9.below (Nat.le_refl _) (fun x e => by
    cases a8 with
    | none => cases e
    | some y => have := (HW8.out.own.blk y rfl).1; simp at e; omega) (Nat.le_trans HB8.out.size hba.size))
  have hW9 : WrAt w9 w6.heap.size w6.heap.size a9 4 c9 [1, 0, 2, 120] := hW9
  have hc9 : w9.cell? ⟨g5, 2, none⟩ = some (.int .i64 3) := (hB9.cell (p := ⟨g5, 2, none⟩) hg6).trans HC6.out
  have HW9 := Lib.hid hW9; have HB9 := Lib.hid hB9; clear HW8 hW9 hK9 hl9 HB8 hB9 hba hcv HC6
  go_wp2_with fail
  refine (wdone_any w6.heap.size w6.heap.size a9 4 c9 _ w9 HW9.out (by decide)).mono ?_
  rintro e w10 ⟨a10, c10, rfl, hO10, hB10⟩
  have hcv : (convert 22 9 (.slice a10 4 c10)).run Try.prog w10 = .ok (.string { data := #[1, 0, 2, 120] }) w10 := str_of w10 a10 4 c10 [1, 0, 2, 120] hO10.bat
  have HW10 := Lib.hid (HW9.out.below hB10); have HB10 := Lib.hid (HB9.out.trans (hB10.mono HB9.out.size)); clear hO10 hB10 HW9 HB9 hc9
  go_wp2_with fail
  refine (wlen_any w6.heap.size w6.heap.size a9 4 c9 _ w10 HW10.out).mono ?_
  rintro e w11 ⟨rfl, rfl⟩
  clear hcv
  go_wp2
  go_ret
  exact ⟨rfl, HS6.out.2.trans (HB10.out.mono HS6.out.2.size)⟩
end Go.Proofs.Ytknpdcnhdmbbiaa

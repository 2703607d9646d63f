
/-
  confluxlaw12.alive.
-/
import Derived.Test.YtppgjodehphaeaaIbAlIt
import Derived.Deep.RegionHeld3
namespace Go.Proofs.Ytppgjodehphaeaa
open Go.RowKit Go.Shelf
set_option linter.unusedVariables false
set_option linter.unusedSimpArgs false
attribute [local go_sem] Oper.semAt_some
def alB : List Int := [128, 96, 0, 1, 0, 0, 0, 2, 0, 0, 0, 3, 65]
theorem alB_code : pcodeF 13 alB = 0 := by decide
theorem alN_code : pcodeF 0 [] = 20 := by decide
theorem al_pc : ipc 0 96 0 0 0 2 0 1 [65] 1 3 = 0 := by decide
theorem al_po : ipo 0 96 0 0 0 2 0 1 [65] 1 3 = alB := by decide
theorem al_pc2 : ipc 0 96 0 0 0 2 0 9 [65] 1 3 = 42 := by decide
theorem al_po2 : ipo 0 96 0 0 0 2 0 9 [65] 1 3 = [] := by decide
theorem al_hd : ihd alB = [0, 96, 0, 0, 0, 2, 0, 1] := by decide
def hX : Nat → Int
  | 1 => 96
  | 5 => 2
  | 7 => 1
  | _ => 0
def hY : Nat → Int
  | 1 => 96
  | 5 => 2
  | 7 => 9
  | _ => 0
theorem hX_bd : ∀ j, 0 ≤ hX j ∧ hX j < 256 := fun j => by unfold hX; split <;> omega
theorem hY_bd : ∀ j, 0 ≤ hY j ∧ hY j < 256 := fun j => by unfold hY; split <;> omega
theorem al_h2 : Str.all [] [[hX 0, hX 1, hX 2, hX 3, hX 4, hX 5, hX 6, hX 7], [hX 0, hX 1, hX 2, hX 3, hX 4, hX 5, hX 6, hX 7]] = [0, 0, 0, 0, 0, 0, 0, 0] := by decide
theorem al_b2 : Str.all [] [[65], [65]] = [0] := by decide
theorem al_h3 : Str.all [] [[hX 0, hX 1, hX 2, hX 3, hX 4, hX 5, hX 6, hX 7], [hY 0, hY 1, hY 2, hY 3, hY 4, hY 5, hY 6, hY 7], [hX 0, hX 1, hX 2, hX 3, hX 4, hX 5, hX 6, hX 7]] = [0, 96, 0, 0, 0, 2, 0, 9] := by decide
theorem al_b3 : Str.all [] [[65], [65], [65]] = [65] := by decide
theorem it_nil (lb : Array Value) (w : World) : (binOp .eql 82 (.func (.func 27) #[] lb) .nilFunc).run Try.prog w = .ok (.bool false) w := by
  first | kernel_rfl | simp [binOp, go_sem] | (go_simp)
theorem it_ent : Enters Try.prog 27 := fun args w => by
  first | kernel_rfl | simp [go_sem]
theorem al_fold (P Q : Nat) (ax : Option Addr) (cx : Nat) (w : World) (hb : BAt w ax 1 [65]) (hx : w.heap[P]? = some (.cells #[.int .u8 0, .int .u8 96, .int .u8 0, .int .u8 0, .int .u8 0, .int .u8 2, .int .u8 0, .int .u8 1, .slice ax 1 cx] 27 (0, 0)))
    (hy : w.heap[Q]? = some (.cells #[.int .u8 0, .int .u8 96, .int .u8 0, .int .u8 0, .int .u8 0, .int .u8 2, .int .u8 0, .int .u8 9, .slice ax 1 cx] 27 (0, 0))) :
    Calls Try.prog 22 #[.func (.func 27) #[] #[.pointer (some ⟨P, 0, none⟩), .pointer (some ⟨Q, 0, none⟩)]] w (IFoldOut [[hX 0, hX 1, hX 2, hX 3, hX 4, hX 5, hX 6, hX 7], [hY 0, hY 1, hY 2, hY 3, hY 4, hY 5, hY 6, hY 7], [hX 0, hX 1, hX 2, hX 3, hX 4, hX 5, hX 6, hX 7]] [[65], [65], [65]] w) := by
  refine ifold_any w _ _ (alRel hX hY ax ax 1 1 cx cx) [[hX 0, hX 1, hX 2, hX 3, hX 4, hX 5, hX 6, hX 7], [hY 0, hY 1, hY 2, hY 3, hY 4, hY 5, hY 6, hY 7], [hX 0, hX 1, hX 2, hX 3, hX 4, hX 5, hX 6, hX 7]] [[65], [65], [65]] 0 (alPre P Q hX hY ax ax 1 1 cx cx) rfl (al_rel 3 (by omega) P Q hX hY ax ax 1 1 cx cx) it_ent (it_nil _) ?_ (fun x Wp lo hi _ _ s A B row hR _ _ => hR) (fun k x Wp W h => ⟨fun j => if k = 1 then hY j else hX j, _, _, _, h⟩) (fun W hW => ?_) (by simp) ?_ ?_
  · rintro k v Wp W hk hWp hW hlt hR
    refine ⟨fun j => if k = 1 then hY j else hX j, _, _, _, hR, ?_, ?_, ?_, ?_, ?_⟩
    · match k, hk with
      | 0, _ => rfl
      | 1, _ => rfl
      | 2, _ => rfl
    · intro j; by_cases e : k = 1
      · simp only [e, if_true]; exact hY_bd j
      · simp only [e, if_false]; exact hX_bd j
    · split <;> omega
    · match k, hk with
      | 0, _ => exact hb.below hW
      | 1, _ => exact hb.below hW
      | 2, _ => exact hb.below hW
    · intro x h0 hx'
      left
      match k, hk with
      | 0, _ => exact hb.lt (by omega) x hx'
      | 1, _ => exact hb.lt (by omega) x hx'
      | 2, _ => exact hb.lt (by omega) x hx'
  · have e1 := (hW.block _ (Array.getElem?_eq_some_iff.1 hx).1).trans hx
    have e2 := (hW.block _ (Array.getElem?_eq_some_iff.1 hy).1).trans hy
    refine ⟨⟨?_, ?_, ?_, ?_, ?_, ?_, ?_, ?_, ?_⟩, ?_, ?_, ?_, ?_, ?_, ?_, ?_, ?_, ?_⟩
    iterate 9 (rw [cell_of_row W _ _ _ _ _ e1]; rfl)
    iterate 9 (rw [cell_of_row W _ _ _ _ _ e2]; rfl)
  · rw [al_b3]; decide
  · left; rw [al_h3]; rfl
theorem al_add (ax : Option Addr) (cx : Nat) (w : World) (hb : BAt w ax 1 [65]) :
    Calls Try.prog 16 #[.agg #[.int .u8 0, .int .u8 96, .int .u8 0, .int .u8 0, .int .u8 0, .int .u8 2, .int .u8 0, .int .u8 1, .slice ax 1 cx], .agg #[.int .u8 0, .int .u8 96, .int .u8 0, .int .u8 0, .int .u8 0, .int .u8 2, .int .u8 0, .int .u8 1, .slice ax 1 cx]] w (IFoldOut [[hX 0, hX 1, hX 2, hX 3, hX 4, hX 5, hX 6, hX 7], [hX 0, hX 1, hX 2, hX 3, hX 4, hX 5, hX 6, hX 7]] [[65], [65]] w) :=
  iadd_any hX hX ax ax 1 1 cx cx [65] [65] w hb hb hX_bd hX_bd (by omega) (by omega)
end Go.Proofs.Ytppgjodehphaeaa

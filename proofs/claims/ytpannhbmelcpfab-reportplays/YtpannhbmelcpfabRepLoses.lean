
/-
  ReportLoses' walk.
-/
import Derived.Test.YtpannhbmelcpfabRepAlive
namespace Go.Proofs.Ytpannhbmelcpfab
open Go.RowKit
set_option linter.unusedVariables false
attribute [local go_sem] Oper.semAt_some
/-- Note as the laws want it. -/
theorem note_kp {w W : World} {b : Nat} {x y : Rs} (q ts now : Int) (h : Kp w b x W) (ok : x.Ok) (hr : x.r < 1000) (hq : 0 ≤ q) (hq' : q < 65536) (e : x.note q ts now = y) :
    Calls Try.prog 24 #[.pointer (some ⟨b, 0, none⟩), .int .u16 q, .int .u32 ts, .int .i64 now] W fun z W' => z = .returned (.tuple #[]) ∧ Kp w b y W' :=
  (note_ok b x q ts now W h.hold ok hr hq hq').mono fun z W' ⟨h1, h2, h3⟩ => ⟨h1, h.grown (e ▸ h2) h3⟩
/-- The law's Stats, and the report's Loss and Lost. -/
def Lz (w : World) (b : Nat) (x : Rs) (c : Nat) (Q G : Int) (W : World) : Prop := W.cell? ⟨c, 1, none⟩ = some (.int .i64 Q) ∧ W.cell? ⟨c, 2, none⟩ = some (.int .i32 G) ∧ Kp w b x W
theorem lz_k {w : World} {b : Nat} {x : Rs} {c : Nat} {Q G : Int} {W : World} (h : W.cell? ⟨c, 1, none⟩ = some (.int .i64 Q) ∧ W.cell? ⟨c, 2, none⟩ = some (.int .i32 G) ∧ Kp w b x W) : Kp w b x W := h.2.2
theorem lz_drew {w : World} {b : Nat} {x : Rs} {c : Nat} {Q G : Int} {W : World} (h : W.cell? ⟨c, 1, none⟩ = some (.int .i64 Q) ∧ W.cell? ⟨c, 2, none⟩ = some (.int .i32 G) ∧ Kp w b x W) : W.drew.cell? ⟨c, 1, none⟩ = some (.int .i64 Q) ∧ W.drew.cell? ⟨c, 2, none⟩ = some (.int .i32 G) ∧ Kp w b x W.drew := ⟨h.1, h.2.1, h.2.2.drawn 1⟩
theorem lz_drawn {w : World} {b : Nat} {x : Rs} {c : Nat} {Q G : Int} {W : World} {k : Nat} (h : W.cell? ⟨c, 1, none⟩ = some (.int .i64 Q) ∧ W.cell? ⟨c, 2, none⟩ = some (.int .i32 G) ∧ Kp w b x W) : (W.drewN k).cell? ⟨c, 1, none⟩ = some (.int .i64 Q) ∧ (W.drewN k).cell? ⟨c, 2, none⟩ = some (.int .i32 G) ∧ Kp w b x (W.drewN k) := ⟨h.1, h.2.1, h.2.2.drawn k⟩
end Go.Proofs.Ytpannhbmelcpfab

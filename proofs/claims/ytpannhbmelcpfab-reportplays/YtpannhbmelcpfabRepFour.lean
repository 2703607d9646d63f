
/-
  Four Stats side by side.
-/
import Derived.Test.YtpannhbmelcpfabRepOnes
namespace Go.Proofs.Ytpannhbmelcpfab
open Go.RowKit
set_option linter.unusedVariables false
structure Fo (w : World) (s c a b : Nat) (xs xc xa xb : Rs) (W : World) : Prop where
  ks : Kp w s xs W
  kc : Kp w c xc W
  ka : Kp w a xa W
  kb : Kp w b xb W
  n1 : s < c
  n2 : c < a
  n3 : a < b
theorem Fo.noteS {w : World} {s c a b : Nat} {xs xc xa xb ys : Rs} {W : World} (h : Fo w s c a b xs xc xa xb W) (q ts now : Int) (ok : xs.Ok) (hr : xs.r < 1000) (hq : 0 ≤ q) (hq' : q < 65536) (e : xs.note q ts now = ys) :
    Calls Try.prog 24 #[.pointer (some ⟨s, 0, none⟩), .int .u16 q, .int .u32 ts, .int .i64 now] W fun z W' => z = .returned (.tuple #[]) ∧ Fo w s c a b ys xc xa xb W' :=
  (note_ok s xs q ts now W h.ks.hold ok hr hq hq').mono fun z W' ⟨h1, h2, h3⟩ => ⟨h1, h.ks.grown (e ▸ h2) h3, h.kc.other h3 h.ks.le (by have := h.n1; omega), h.ka.other h3 h.ks.le (by have := h.n1; have := h.n2; omega), h.kb.other h3 h.ks.le (by have := h.n1; have := h.n2; have := h.n3; omega), h.n1, h.n2, h.n3⟩
theorem Fo.noteA {w : World} {s c a b : Nat} {xs xc xa xb ys : Rs} {W : World} (h : Fo w s c a b xs xc xa xb W) (q ts now : Int) (ok : xa.Ok) (hr : xa.r < 1000) (hq : 0 ≤ q) (hq' : q < 65536) (e : xa.note q ts now = ys) :
    Calls Try.prog 24 #[.pointer (some ⟨a, 0, none⟩), .int .u16 q, .int .u32 ts, .int .i64 now] W fun z W' => z = .returned (.tuple #[]) ∧ Fo w s c a b xs xc ys xb W' :=
  (note_ok a xa q ts now W h.ka.hold ok hr hq hq').mono fun z W' ⟨h1, h2, h3⟩ => ⟨h1, h.ks.other h3 h.ka.le (by have := h.n1; have := h.n2; omega), h.kc.other h3 h.ka.le (by have := h.n2; omega), h.ka.grown (e ▸ h2) h3, h.kb.other h3 h.ka.le (by have := h.n3; omega), h.n1, h.n2, h.n3⟩
theorem Fo.noteB {w : World} {s c a b : Nat} {xs xc xa xb ys : Rs} {W : World} (h : Fo w s c a b xs xc xa xb W) (q ts now : Int) (ok : xb.Ok) (hr : xb.r < 1000) (hq : 0 ≤ q) (hq' : q < 65536) (e : xb.note q ts now = ys) :
    Calls Try.prog 24 #[.pointer (some ⟨b, 0, none⟩), .int .u16 q, .int .u32 ts, .int .i64 now] W fun z W' => z = .returned (.tuple #[]) ∧ Fo w s c a b xs xc xa ys W' :=
  (note_ok b xb q ts now W h.kb.hold ok hr hq hq').mono fun z W' ⟨h1, h2, h3⟩ => ⟨h1, h.ks.other h3 h.kb.le (by have := h.n1; have := h.n2; have := h.n3; omega), h.kc.other h3 h.kb.le (by have := h.n2; have := h.n3; omega), h.ka.other h3 h.kb.le (by have := h.n3; omega), h.kb.grown (e ▸ h2) h3, h.n1, h.n2, h.n3⟩
theorem Fo.drawn {w : World} {s c a b : Nat} {xs xc xa xb : Rs} {W : World} (h : Fo w s c a b xs xc xa xb W) (k : Nat) : Fo w s c a b xs xc xa xb (W.drewN k) :=
  ⟨h.ks.drawn k, h.kc.drawn k, h.ka.drawn k, h.kb.drawn k, h.n1, h.n2, h.n3⟩
/-- Two new ones. -/
theorem Fo.new {w : World} {s c : Nat} {xs xc : Rs} {W : World} (hs : Kp w s xs W) (hc : Kp w c xc W) (n1 : s < c) :
    Fo w s c W.heap.size (W.heap.size + 1) xs xc Rs.zero Rs.zero ((W.alloc (.cells #[.int .i64 0, .int .i64 0, .int .i64 0, .int .i64 0, .int .u32 0, .int .i64 0, .int .i64 0, .int .i64 0] 66)).alloc (.cells #[.int .i64 0, .int .i64 0, .int .i64 0, .int .i64 0, .int .u32 0, .int .i64 0, .int .i64 0, .int .i64 0] 66)) := by
  have ha := Kp.new (w := w) hs.bel
  have hb := Kp.new (w := w) ha.bel
  rw [show (W.alloc (.cells #[.int .i64 0, .int .i64 0, .int .i64 0, .int .i64 0, .int .u32 0, .int .i64 0, .int .i64 0, .int .i64 0] 66)).heap.size = W.heap.size + 1 by simp] at hb
  exact ⟨(hs.new2 (gb_alloc _ _ _)).new2 (gb_alloc _ _ _), (hc.new2 (gb_alloc _ _ _)).new2 (gb_alloc _ _ _), ha.new2 (gb_alloc _ _ _), hb, n1, hc.hold.lt, Nat.lt_succ_self _⟩
/-- Numbers noted at one time behind a state. -/
def Sm.st (x : Rs) (zs : List Int) : Nat → Rs
  | 0 => x
  | m + 1 => (Sm.st x zs m).note (zs.getD m 0) 5 5
theorem Sm.r (x : Rs) (zs : List Int) (m : Nat) : (Sm.st x zs m).r = x.r + m := by
  induction m with
  | zero => simp [Sm.st]
  | succ m ih => show (Sm.st x zs m).r + 1 = _; rw [ih]; omega
theorem Sm.ok (x : Rs) (zs : List Int) (len : Nat) (hx : x.Ok) (hr : x.r ≤ 100) (hl : len ≤ 100) (hq : ∀ i, i < len → 0 ≤ zs.getD i 0 ∧ zs.getD i 0 < 65536) (m : Nat) (hm : m ≤ len) : (Sm.st x zs m).Ok := by
  induction m with
  | zero => exact hx
  | succ m ih => exact (ih (by omega)).note _ _ _ (by rw [Sm.r]; omega) (hq m (by omega)).1 (hq m (by omega)).2
def Cl.g (zs : List Int) (i : Nat) : Int := 1000 + zs.getD i 0 % 1024
theorem Cl.g_bd (zs : List Int) (i : Nat) : 1000 ≤ Cl.g zs i ∧ Cl.g zs i ≤ 2023 := by unfold Cl.g; omega
theorem Cl.top_bd (g : Nat → Int) (hg : ∀ i, 1000 ≤ g i ∧ g i ≤ 2023) (m : Nat) : 1000 ≤ Cl.top g m ∧ Cl.top g m ≤ 2023 :=
  ⟨(Cl.top_ge g m).1, Cl.top_le g 2023 (by omega) m fun i _ => (hg i).2⟩
end Go.Proofs.Ytpannhbmelcpfab

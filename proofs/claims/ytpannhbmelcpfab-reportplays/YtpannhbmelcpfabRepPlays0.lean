
/-
  ReportPlays: the reference's packets in a row of their own, and one more appended.
-/
import Derived.Test.YtpannhbmelcpfabRepSame
import Derived.Lib.AppendZeros
namespace Go.Proofs.Ytpannhbmelcpfab
open Go.RowKit
set_option linter.unusedVariables false
attribute [local go_sem] Oper.semAt_some
def ones (q t n : Nat → Int) : Nat → List Value
  | 0 => []
  | k + 1 => ones q t n k ++ [.int .u16 (q k), .int .u32 (t k), .int .i64 (n k)]
theorem ones_len (q t n : Nat → Int) : ∀ k, (ones q t n k).length = k * 3
  | 0 => rfl
  | k + 1 => by simp [ones, ones_len q t n k]; omega
theorem ones_at (q t n : Nat → Int) : ∀ k j, j < k → (ones q t n k)[j * 3]? = some (.int .u16 (q j)) ∧ (ones q t n k)[j * 3 + 1]? = some (.int .u32 (t j)) ∧ (ones q t n k)[j * 3 + 2]? = some (.int .i64 (n j))
  | 0, j, h => by omega
  | k + 1, j, h => by
    have hl := ones_len q t n k
    by_cases e : j = k
    · subst e
      simp only [ones]
      rw [List.getElem?_append_right (by omega), List.getElem?_append_right (by omega), List.getElem?_append_right (by omega), hl, Nat.sub_self, show j * 3 + 1 - j * 3 = 1 from by omega, show j * 3 + 2 - j * 3 = 2 from by omega]
      exact ⟨rfl, rfl, rfl⟩
    · simp only [ones]
      rw [List.getElem?_append_left (by omega), List.getElem?_append_left (by omega), List.getElem?_append_left (by omega)]
      exact ones_at q t n k j (by omega)
theorem ones_split (i : Nat) : ∃ k, i = k * 3 ∨ i = k * 3 + 1 ∨ i = k * 3 + 2 := ⟨i / 3, by omega⟩
theorem OAt.src {W : World} {g k : Nat} {q t n : Nat → Int} {a : Option Addr} (h : OAt W a g k q t n) : ∀ j u, (ones q t n k)[j]? = some u → W.cell? ((⟨g, 0, none⟩ : Addr).add j) = some u := fun j u hu => by
  rw [show (Addr.add ⟨g, 0, none⟩ j) = ⟨g, j, none⟩ from by unfold Addr.add; split <;> simp_all]
  have hj : j < k * 3 := by rw [← ones_len q t n k]; exact (List.getElem?_eq_some_iff.1 hu).1
  obtain ⟨i, e | e | e⟩ := ones_split j
  · subst e; have h1 := ones_at q t n k i (by omega); rw [h1.1] at hu; cases hu; exact h.seq i (by omega)
  · subst e; have h1 := ones_at q t n k i (by omega); rw [h1.2.1] at hu; cases hu; exact h.ts i (by omega)
  · subst e; have h1 := ones_at q t n k i (by omega); rw [h1.2.2] at hu; cases hu; exact h.now i (by omega)
theorem ones_one (q t n : Nat → Int) : ∀ k, ∀ u ∈ ones q t n k, u.oneCell' = true
  | 0, u, h => by cases h
  | k + 1, u, h => by
    simp only [ones, List.mem_append, List.mem_cons, List.not_mem_nil, or_false] at h
    rcases h with h | rfl | rfl | rfl
    · exact ones_one q t n k u h
    all_goals rfl
theorem info_one : (Try.prog.info? 71).map (fun i => (i.zero, i.size, i.bytes)) = some (some (Value.agg #[.int .u16 0, .int .u32 0, .int .i64 0]), 3, 16) := by kernel_rfl
theorem info_parts8 {o : Option TypeInfo} {z : Option Value} {s b : Nat} (h : o.map (fun i => (i.zero, i.size, i.bytes)) = some (z, s, b)) : ∃ i, o = some i ∧ i.zero = z ∧ i.size = s ∧ i.bytes = b := by
  cases o with
  | none => simp at h
  | some i => simp at h; exact ⟨i, rfl, h.1, h.2.1, h.2.2⟩
/-- append of m packets to i in a row of their own. -/
theorem append_ones (w : World) (ty : TypeId) (base : Nat) (a : Option Addr) (i c : Nat) (xs : List Value) (h : w.ownsRow base 71 3 (.slice a i c) i xs) (a2 : Option Addr) (m c2 : Nat) (news : List Value) (hl : news.length = m * 3)
    (hsrc : 0 < m → ∃ x, a2 = some x ∧ ∀ j u, news[j]? = some u → w.cell? (x.add j) = some u) (h1 : ∀ u ∈ news, u.oneCell' = true) (hlim : i + m ≤ 1000000) (hbase : base ≤ w.heap.size) :
    ∃ a' c' w', (Builtin.append_ #[61, 61] ty #[.slice a i c, .slice a2 m c2]).run Try.prog w = .ok (.slice a' (i + m) c') w' ∧
      w'.ownsRow base 71 3 (.slice a' (i + m) c') (i + m) (xs ++ news) ∧ w.grownBy w' (a.map (·.block)) := by
  obtain ⟨i0, hi0, hz0, hz1, hz2⟩ := info_parts8 info_one
  cases a2 with
  | none =>
    have h0 : m = 0 := by
      rcases Nat.eq_zero_or_pos m with h' | h'
      · exact h'
      · obtain ⟨x, e, _⟩ := hsrc h'; cases e
    subst h0
    have hl0 : news = [] := List.eq_nil_of_length_eq_zero (by omega)
    subst hl0
    rw [List.append_nil]
    refine ⟨a, c, w, ?_, h, ⟨rfl, rfl, rfl, Nat.le_refl _, fun _ _ _ => rfl⟩⟩
    have hnc : i ≤ c := by
      rcases h.2 with ⟨hv, rfl⟩ | ⟨g, cap, cur, hv, _, _, hnc, _⟩
      · exact Nat.zero_le _
      · simp only [Value.slice.injEq, true_and] at hv; omega
    cases a <;> simp [Builtin.append_, run_underlying Try.underlying61, sizeOf, typeInfo, hi0, Builtin.lenOf, Builtin.firstCells, hnc, storeCells]
  | some x =>
    have hsrc' : ∀ j u, news[j]? = some u → w.cell? (x.add j) = some u := fun j u hu => by
      have hj : j < news.length := (List.getElem?_eq_some_iff.1 hu).1
      obtain ⟨y, e, hs⟩ := hsrc (by omega)
      cases e; exact hs j u hu
    obtain ⟨v', w', hr, ho, hg, hnil⟩ := run_append_own (P := Try.prog) w base 61 ty 71 i0 _ 3 16 Try.underlying61 hi0 hz0 hz1 hz2 rfl (by decide) (.slice a i c) i _ h x m c2 news hl hsrc' h1 (by unfold maxLen; omega) (by omega) hbase
    have hv : ∃ a' c', v' = .slice a' (i + m) c' := by
      rcases ho.2 with ⟨rfl, e⟩ | ⟨g, cap, cur, rfl, _⟩
      · exact ⟨none, 0, by rw [e]⟩
      · exact ⟨_, _, rfl⟩
    obtain ⟨a', c', rfl⟩ := hv
    have eb : ∀ (y : Option Addr) (k d : Nat), (Value.slice y k d).ownBlock = y.map (·.block) := fun y k d => by cases y <;> rfl
    rw [eb] at hg
    exact ⟨a', c', w', hr, ho, hg⟩
theorem step_append_run8 {P : Program} {ops : Array Oper} {o : Oper} {a : Act} {w : World} {K : Act → World → Prop} {Q : Exit → Act → World → Prop} {E : Prop} (hgd : o.guard = none) (s x : Operand) (t tn : TypeId)
    (ho : o.op = .call { callee := .builtin .append, args := #[s, x], argTypes := #[t, tn] }) (vs vx : Value) (hs : a.eval s = vs) (hx : a.eval x = vx)
    (v' : Value) (w' : World) (hr : (Builtin.append_ #[t, tn] o.type #[vs, vx]).run P w = .ok v' w') (h : K (a.put o.dst v') w') :
    if Region.wanted o (yielded ops a.tmps) = true then Oper.wp P o a w K Q else E := by
  have hw : Region.wanted o (yielded ops a.tmps) = true := by simp [Region.wanted, hgd]
  rw [if_pos hw]
  exact Lib.wp_append_run w s x t tn ho vs vx hs hx v' w' hr h
/-- As one step of a region; what is behind it is asked for whatever row comes of it. -/
theorem step_append_ones {ops : Array Oper} {o : Oper} {a : Act} {w : World} {K : Act → World → Prop} {Q : Exit → Act → World → Prop} {E : Prop} (hgd : o.guard = none) (s x : Operand)
    (ho : o.op = .call { callee := .builtin .append, args := #[s, x], argTypes := #[61, 61] })
    (sa : Option Addr) (i c : Nat) (hs : a.eval s = .slice sa i c) (xa : Option Addr) (m cx : Nat) (hx : a.eval x = .slice xa m cx)
    (base : Nat) (xs : List Value) (hown : w.ownsRow base 71 3 (.slice sa i c) i xs) (news : List Value) (hl : news.length = m * 3)
    (hsrc : 0 < m → ∃ y, xa = some y ∧ ∀ j u, news[j]? = some u → w.cell? (y.add j) = some u) (h1 : ∀ u ∈ news, u.oneCell' = true) (hlim : i + m ≤ 1000000) (hbase : base ≤ w.heap.size)
    (h : ∀ a' c' w', w'.ownsRow base 71 3 (.slice a' (i + m) c') (i + m) (xs ++ news) → w.grownBy w' (sa.map (·.block)) → K (a.put o.dst (.slice a' (i + m) c')) w') :
    if Region.wanted o (yielded ops a.tmps) = true then Oper.wp Try.prog o a w K Q else E := by
  obtain ⟨a', c', w', hr, ho', hg⟩ := append_ones w o.type base sa i c xs hown xa m cx news hl hsrc h1 hlim hbase
  exact step_append_run8 hgd s x _ _ ho _ _ hs hx _ _ hr (h a' c' w' ho' hg)
/-- In the region: all as in w3 but x's first cell. -/
structure SX (w3 : World) (x : Nat) (E C : Int) (W : World) : Prop where
  gr : w3.grownBy W (some x)
  lt : x < w3.heap.size
  row : ∃ v, W.heap[x]? = some (.cells #[v, .int .i64 E, .int .i64 C] 68 (0, 0))
theorem SX.frozen {w3 W : World} {x : Nat} {E C : Int} (h : SX w3 x E C W) (i : Nat) : W.frozen? ⟨x, i, none⟩ = false := by
  obtain ⟨v, hv⟩ := h.row; exact frozen_of_row W x i _ _ hv
theorem SX.grown {w3 W W' : World} {x : Nat} {E C : Int} {r : Option Nat} (h : SX w3 x E C W) (hg : W.grownBy W' r) (hr : ∀ y, r = some y → w3.heap.size ≤ y) : SX w3 x E C W' := by
  have hx : some x ≠ r := fun e => by have := hr x e.symm; have := h.lt; omega
  obtain ⟨v, hv⟩ := h.row
  refine ⟨⟨hg.os.trans h.gr.os, hg.tape.trans h.gr.tape, hg.output.trans h.gr.output, Nat.le_trans h.gr.size hg.size, fun k hk hne => ?_⟩, h.lt, v, (hg.block x (Nat.lt_of_lt_of_le h.lt h.gr.size) hx).trans hv⟩
  exact (hg.block k (Nat.lt_of_lt_of_le hk h.gr.size) (fun e => by have := hr k e.symm; omega)).trans (h.gr.block k hk hne)
theorem SX.store {w3 W : World} {x : Nat} {E C : Int} (h : SX w3 x E C W) (v : Value) : SX w3 x E C (W.setCell ⟨x, 0, none⟩ v) ∧ (W.setCell ⟨x, 0, none⟩ v).heap[x]? = some (.cells #[v, .int .i64 E, .int .i64 C] 68 (0, 0)) := by
  obtain ⟨v0, hv⟩ := h.row
  have h1 : (W.setCell ⟨x, 0, none⟩ v).heap[x]? = some (.cells #[v, .int .i64 E, .int .i64 C] 68 (0, 0)) := heap_setCell_same W x 0 _ _ _ hv
  exact ⟨⟨⟨h.gr.os, h.gr.tape, h.gr.output, by simpa using h.gr.size, fun k hk hne => (Below.heap_setCell W _ _ k (fun e => hne (by rw [e]))).trans (h.gr.block k hk hne)⟩, h.lt, v, h1⟩, h1⟩
theorem SX.drew {w3 W : World} {x : Nat} {E C : Int} (h : SX w3 x E C W) : SX w3 x E C W.drew := h.grown (r := none) ⟨rfl, rfl, rfl, Nat.le_refl _, fun _ _ _ => rfl⟩ (fun y e => by cases e)
theorem SX.alloc {w3 W : World} {x : Nat} {E C : Int} (h : SX w3 x E C W) (o : Obj) : SX w3 x E C (W.alloc o) := h.grown (r := none) (World.grownBy_alloc W o none) (fun y e => by cases e)
theorem SX.allocd {w3 W : World} {x : Nat} {E C : Int} (h : SX w3 x E C W.drew) (o : Obj) : SX w3 x E C (W.alloc o).drew := h.grown (W' := (W.alloc o).drew) (r := none) ⟨rfl, rfl, rfl, (World.grownBy_alloc W o none).size, fun k hk hr => (World.grownBy_alloc W o none).block k hk hr⟩ (fun y e => by cases e)
theorem SX.cell0 {w3 W : World} {x : Nat} {E C : Int} (h : SX w3 x E C W) : ∃ v, W.cell? ⟨x, 0, none⟩ = some v := by
  obtain ⟨v, hv⟩ := h.row
  exact ⟨v, by rw [cell_of_row W x 0 _ _ _ hv]; rfl⟩
/-- More is expected behind one more packet. -/
theorem Os.exp_step (q t n : Nat → Int) (k : Nat) (hk : k ≤ 60) (ok : (Os.st q t n k).Ok) (hq : 0 ≤ q k ∧ q k < 65536) : (Os.st q t n k).exp ≤ (Os.st q t n (k + 1)).exp := by
  have h1 := ok.exp_bd
  have hr : (Os.st q t n k).r = k := Os.r q t n k
  have ok2 : (Os.st q t n (k + 1)).Ok := ok.note (q k) (t k) (n k) (by omega) hq.1 hq.2
  have h2 := ok2.exp_bd
  have hr2 : (Os.st q t n (k + 1)).r = (k + 1 : Nat) := Os.r q t n (k + 1)
  by_cases h0 : k = 0
  · rw [h1.2.2.1 (by omega)]; exact h2.1
  · rw [h1.2.2.2 (by omega), h2.2.2.2 (by omega)]
    have e1 : (Os.st q t n (k + 1)).f = (Os.st q t n k).f := by
      show (if (Os.st q t n k).r = 0 then _ else _) = _
      rw [if_neg (by omega)]
    have e2 : (Os.st q t n k).h ≤ (Os.st q t n (k + 1)).h := by
      show _ ≤ Ser.high (Os.st q t n k).h (q k)
      unfold Ser.high; split <;> omega
    omega
theorem SX.start {w3 : World} {x : Nat} {E C : Int} {v : Value} (hr : w3.heap[x]? = some (.cells #[v, .int .i64 E, .int .i64 C] 68 (0, 0))) : SX w3 x E C w3 :=
  ⟨⟨rfl, rfl, rfl, Nat.le_refl _, fun _ _ _ => rfl⟩, (Array.getElem?_eq_some_iff.1 hr).1, v, hr⟩
theorem sx_all {w3 W : World} {x ob : Nat} {E C q t n : Int} (ho : w3.heap[ob]? = some (.cells #[.int .u16 q, .int .u32 t, .int .i64 n] 71 (0, 0))) (hne : ob ≠ x) (h : SX w3 x E C W) :
    SX w3 x E C W ∧ W.cell? ⟨ob, 0, none⟩ = some (.int .u16 q) ∧ W.cell? ⟨ob, 1, none⟩ = some (.int .u32 t) ∧ W.cell? ⟨ob, 2, none⟩ = some (.int .i64 n) ∧ W.frozen? ⟨x, 0, none⟩ = false := by
  have hh := (h.gr.block ob (Array.getElem?_eq_some_iff.1 ho).1 (fun e => hne (by injection e))).trans ho
  exact ⟨h, by rw [cell_of_row W ob 0 _ _ _ hh]; rfl, by rw [cell_of_row W ob 1 _ _ _ hh]; rfl, by rw [cell_of_row W ob 2 _ _ _ hh]; rfl, h.frozen 0⟩
theorem sx_oat {w3 W : World} {x : Nat} {E C : Int} {a : Option Addr} {g k : Nat} {q t n : Nat → Int} (h : SX w3 x E C W) (ho : OAt w3 a g k q t n) (hne : 0 < k → x < g) : OAt W a g k q t n := by
  have hb : ∀ i, 0 < k → W.cell? ⟨g, i, none⟩ = w3.cell? ⟨g, i, none⟩ := fun i h0 =>
    World.cell?_of_block (h.gr.block g (ho.lt h0) (fun e => by injection e with e; have := hne h0; omega))
  exact ⟨ho.at', fun h0 => Nat.lt_of_lt_of_le (ho.lt h0) h.gr.size, fun i hi => (hb _ (by omega)).trans (ho.seq i hi), fun i hi => (hb _ (by omega)).trans (ho.ts i hi), fun i hi => (hb _ (by omega)).trans (ho.now i hi), ho.rq, ho.rt⟩
theorem own0 (W : World) (b : Nat) (hb : b ≤ W.heap.size) : (W.alloc (.cells #[] 71)).ownsRow b 71 3 (.slice (some ⟨W.heap.size, 0, none⟩) 0 0) 0 [] :=
  ⟨rfl, .inr ⟨W.heap.size, 0, #[], rfl, hb, heap_alloc_new W _, Nat.le_refl _, Nat.zero_le _, rfl, rfl⟩⟩
theorem own0' (W : World) (b N : Nat) (hN : W.heap.size = N) (hb : b ≤ N) : (W.alloc (.cells #[] 71)).ownsRow b 71 3 (.slice (some ⟨N, 0, none⟩) 0 0) 0 [] := by
  subst hN; exact own0 W b hb
theorem heap_new' (W : World) (o : Obj) (N : Nat) (hN : W.heap.size = N) : (W.alloc o).heap[N]? = some o := by subst hN; exact heap_new W o
theorem own_base {W : World} {base : Nat} {a : Option Addr} {m c : Nat} {xs : List Value} (h : W.ownsRow base 71 3 (.slice a m c) m xs) : ∀ y, a.map (·.block) = some y → base ≤ y := fun y hy => by
  cases a with
  | none => cases hy
  | some z => exact (h.lt y (by simpa [Value.ownBlock] using hy)).1
theorem own0d (W : World) (b N : Nat) (hN : W.heap.size = N) (hb : b ≤ N) : ((W.alloc (.cells #[] 71)).drew).ownsRow b 71 3 (.slice (some ⟨N, 0, none⟩) 0 0) 0 [] := own0' W b N hN hb
theorem own0ad (W : World) (o : Obj) (b N : Nat) (hN : W.heap.size = N) (hb : b ≤ N) : (((W.alloc (.cells #[] 71)).alloc o).drew).ownsRow b 71 3 (.slice (some ⟨N, 0, none⟩) 0 0) 0 [] := (own0' W b N hN hb).alloc o
theorem own0bd (W : World) (o : Obj) (b : Nat) (hb : b ≤ W.heap.size) : (((W.alloc o).alloc (.cells #[] 71)).drew).ownsRow b 71 3 (.slice (some ⟨W.heap.size + 1, 0, none⟩) 0 0) 0 [] := own0' (W.alloc o) b _ (by simp) (by omega)
theorem rowB1 {W wA : World} {oA oB : Obj} (hg : (((W.alloc oA).alloc oB).drew).grownBy wA (some W.heap.size)) : wA.heap[W.heap.size + 1]? = some oB :=
  (hg.block (W.heap.size + 1) (by show W.heap.size + 1 < ((W.alloc oA).alloc oB).heap.size; simp) (by intro h; injection h with h; omega)).trans (heap_new' (W.alloc oA) oB _ (by simp))
theorem rowB0 {W wA : World} {oA oB : Obj} (hg : (((W.alloc oB).alloc oA).drew).grownBy wA (some (W.heap.size + 1))) : wA.heap[W.heap.size]? = some oB :=
  (hg.block W.heap.size (by show W.heap.size < ((W.alloc oB).alloc oA).heap.size; simp; omega) (by intro h; injection h with h; omega)).trans ((heap_alloc_old (W.alloc oB) oA (by simp)).trans (heap_new W oB))
theorem step_ap1 {ops : Array Oper} {o : Oper} {a : Act} {w : World} {K : Act → World → Prop} {Q : Exit → Act → World → Prop} {E : Prop} (hgd : o.guard = none) (s x : Operand)
    (ho : o.op = .call { callee := .builtin .append, args := #[s, x], argTypes := #[61, 61] })
    (N : Nat) (hs : a.eval s = .slice (some ⟨N, 0, none⟩) 0 0) (xa : Option Addr) (k cx g : Nat) (q t n : Nat → Int) (hx : a.eval x = .slice xa k cx)
    (base : Nat) (hown : w.ownsRow base 71 3 (.slice (some ⟨N, 0, none⟩) 0 0) 0 []) (hoat : OAt w xa g k q t n) (hk : k ≤ 60) (hbase : base ≤ w.heap.size)
    (h : ∀ a' c' w', w'.ownsRow base 71 3 (.slice a' k c') k (ones q t n k) → w.grownBy w' (some N) → K (a.put o.dst (.slice a' k c')) w') :
    if Region.wanted o (yielded ops a.tmps) = true then Oper.wp Try.prog o a w K Q else E := by
  refine step_append_ones hgd s x ho _ 0 0 hs xa k cx hx base [] hown (ones q t n k) (ones_len q t n k) (fun h0 => ⟨_, hoat.at' h0, hoat.src⟩) (ones_one q t n k) (by omega) hbase ?_
  intro a' c' w' hO hg
  rw [Nat.zero_add] at hO ⊢
  exact h a' c' w' hO hg
theorem step_ap2 {ops : Array Oper} {o : Oper} {a : Act} {w : World} {K : Act → World → Prop} {Q : Exit → Act → World → Prop} {E : Prop} (hgd : o.guard = none) (s x : Operand)
    (ho : o.op = .call { callee := .builtin .append, args := #[s, x], argTypes := #[61, 61] })
    (sa : Option Addr) (k c : Nat) (hs : a.eval s = .slice sa k c) (B : Nat) (hx : a.eval x = .slice (some ⟨B, 0, none⟩) 1 1) (q t n : Nat → Int)
    (base : Nat) (hown : w.ownsRow base 71 3 (.slice sa k c) k (ones q t n k)) (hB : w.heap[B]? = some (.cells #[.int .u16 (q k), .int .u32 (t k), .int .i64 (n k)] 71 (0, 0))) (hk : k ≤ 60) (hbase : base ≤ w.heap.size)
    (h : ∀ a' c' w', w'.ownsRow base 71 3 (.slice a' (k + 1) c') (k + 1) (ones q t n (k + 1)) → w.grownBy w' (sa.map (·.block)) → K (a.put o.dst (.slice a' (k + 1) c')) w') :
    if Region.wanted o (yielded ops a.tmps) = true then Oper.wp Try.prog o a w K Q else E := by
  refine step_append_ones hgd s x ho sa k c hs _ 1 1 hx base _ hown [.int .u16 (q k), .int .u32 (t k), .int .i64 (n k)] rfl (fun _ => ⟨_, rfl, fun j u hu => ?_⟩) (by intro u hu; simp at hu; rcases hu with rfl | rfl | rfl <;> rfl) (by omega) hbase h
  rw [show (Addr.add ⟨B, 0, none⟩ j) = ⟨B, j, none⟩ from by unfold Addr.add; split <;> simp_all, cell_of_row w B j _ _ _ hB]
  simpa using hu
theorem own_oat {W : World} {base : Nat} {a : Option Addr} {m c : Nat} {q t n : Nat → Int} (h : W.ownsRow base 71 3 (.slice a m c) m (ones q t n m)) (h0 : 0 < m) (rq : ∀ i, i < m → (Lit.int .u16 (q i)).wf = true) (rt : ∀ i, i < m → 0 ≤ t i ∧ t i < 4294967296) :
    ∃ g, base ≤ g ∧ OAt W a g m q t n := by
  rcases h.2 with ⟨hv, e⟩ | ⟨g, cap, cur, hv, hb, hg, _⟩
  · omega
  · simp only [Value.slice.injEq, true_and] at hv
    obtain ⟨rfl, rfl⟩ := hv
    have hc : ∀ j u, (ones q t n m)[j]? = some u → W.cell? ⟨g, j, none⟩ = some u := fun j u hu => by
      have := h.cells (g := g) rfl j u hu
      rwa [show (Addr.add ⟨g, 0, none⟩ j) = ⟨g, j, none⟩ from by unfold Addr.add; split <;> simp_all] at this
    exact ⟨g, hb, fun _ => rfl, fun _ => (Array.getElem?_eq_some_iff.1 hg).1, fun i hi => hc _ _ (ones_at q t n m i hi).1, fun i hi => hc _ _ (ones_at q t n m i hi).2.1, fun i hi => hc _ _ (ones_at q t n m i hi).2.2, rq, rt⟩
theorem OAt.other {W W' : World} {a : Option Addr} {g m : Nat} {q t n : Nat → Int} {r : Nat} (h : OAt W a g m q t n) (hg : W.grownBy W' (some r)) (hne : 0 < m → g ≠ r) : OAt W' a g m q t n := by
  have hb : ∀ i, 0 < m → W'.cell? ⟨g, i, none⟩ = W.cell? ⟨g, i, none⟩ := fun i h0 =>
    World.cell?_of_block (hg.block g (h.lt h0) (fun e => by injection e with e; exact hne h0 e))
  exact ⟨h.at', fun h0 => Nat.lt_of_lt_of_le (h.lt h0) hg.size, fun i hi => (hb _ (by omega)).trans (h.seq i hi), fun i hi => (hb _ (by omega)).trans (h.ts i hi), fun i hi => (hb _ (by omega)).trans (h.now i hi), h.rq, h.rt⟩
end Go.Proofs.Ytpannhbmelcpfab

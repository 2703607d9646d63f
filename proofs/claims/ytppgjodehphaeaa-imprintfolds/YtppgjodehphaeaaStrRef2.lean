/-
  StripeCuts' walk.
-/
import Derived.Test.YtppgjodehphaeaaStrAlive2
import Derived.Deep.RegionHeld3
import Derived.IntWalk
namespace Go.Proofs.Ytppgjodehphaeaa
open Go.RowKit Go.Shelf
set_option linter.unusedVariables false
theorem getD_take' (l : List Int) (k i : Nat) : (l.take k).getD i 0 = if i < k then l.getD i 0 else 0 := by
  rw [List.getD_eq_getElem?_getD, List.getElem?_take, List.getD_eq_getElem?_getD]; split <;> rfl
theorem getD_drop' (l : List Int) (k i : Nat) : (l.drop k).getD i 0 = l.getD (k + i) 0 := by
  rw [List.getD_eq_getElem?_getD, List.getElem?_drop, List.getD_eq_getElem?_getD]
theorem getD_append' (l m : List Int) (i : Nat) : (l ++ m).getD i 0 = if i < l.length then l.getD i 0 else m.getD (i - l.length) 0 := by
  rw [List.getD_eq_getElem?_getD, List.getElem?_append]; split <;> rw [List.getD_eq_getElem?_getD]
theorem Str.Ok.take {l : List Int} (h : Str.Ok l) (k : Nat) : Str.Ok (l.take k) := fun i => by
  rw [getD_take']; split
  · exact h i
  · omega
theorem Str.Ok.drop {l : List Int} (h : Str.Ok l) (k : Nat) : Str.Ok (l.drop k) := fun i => by rw [getD_drop']; exact h _
theorem Str.Ok.append {l m : List Int} (h : Str.Ok l) (h' : Str.Ok m) : Str.Ok (l ++ m) := fun i => by
  rw [getD_append']; split
  · exact h i
  · exact h' _
theorem xor_parts (a b : List Int) (k : Nat) (h : a.length = b.length) (hk : k ≤ a.length) : Str.xor (a.take k) (b.take k) ++ Str.xor (a.drop k) (b.drop k) = Str.xor a b := by
  refine getD_ext (by simp only [List.length_append, Str.xor_len, List.length_take, List.length_drop]; omega) fun i hi => ?_
  rw [getD_append', Str.xor_len]
  simp only [List.length_take]
  split
  · rw [Str.xor_at, Str.xor_at, getD_take', getD_take', if_pos (by omega), if_pos (by omega)]
  · rw [Str.xor_at, Str.xor_at, getD_drop', getD_drop', show k + (i - max (min k a.length) (min k b.length)) = i by omega]
theorem fit_fit (l : List Int) (m k : Nat) (h : m ≤ k) : Str.fit (Str.fit l k) m = Str.fit l m := by
  refine getD_ext (by simp only [Str.fit_len]) fun i hi => ?_
  rw [Str.fit_len] at hi
  rw [Str.fit_at, Str.fit_at, Str.fit_at, if_pos hi, if_pos (by omega), if_pos hi]
theorem gap_eq (a b : List Int) (h : a.length = b.length) : decide (Str.gap a b < 0) = decide (a = b) := by
  rw [Str.gap_neg]
  by_cases e : a = b
  · rw [decide_eq_true e, decide_eq_true (fun j _ => by rw [e])]
  · rw [decide_eq_false e, decide_eq_false (fun hh => e (getD_ext h fun i hi => hh i (by omega)))]
theorem zero_eq (a b : List Int) (ha : Str.Ok a) (hb : Str.Ok b) (h : a.length = b.length) : decide (Str.gap (Str.xor a b) [] < 0) = decide (a = b) := by
  rw [Str.gap_neg]
  by_cases e : a = b
  · rw [decide_eq_true e, decide_eq_true (fun j _ => by rw [Str.xor_at, e, Str.bx_self, getD_out (by simp)])]
  · rw [decide_eq_false e, decide_eq_false (fun hh => e (getD_ext h fun i hi => ?_))]
    have := hh i (by rw [Str.xor_len]; omega)
    rw [Str.xor_at, getD_out (a := []) (by simp)] at this
    exact (Str.bx_eq_zero (ha i).1 (hb i).1).1 this
theorem and1023 (n : Int) : bits .and .i64 n 1023 = n % 1024 := by
  have hmn : (BitVec.ofInt 64 (1023 : Int)).toNat = 2 ^ 10 - 1 := by decide
  have key : (BitVec.ofInt 64 n &&& BitVec.ofInt 64 (1023 : Int)).toNat = (n % ((2 ^ 64 : Nat) : Int)).toNat % 2 ^ 10 := by
    rw [BitVec.toNat_and, BitVec.toNat_ofInt, hmn, Nat.and_two_pow_sub_one_eq_mod]
  show IntKind.i64.wrap ((BitVec.ofInt 64 n &&& BitVec.ofInt 64 (1023 : Int)).toNat : Nat) = _
  rw [key, IntKind.wrap_i64]
  omega
theorem BAt.take {W : World} {a : Option Addr} {n : Nat} {l : List Int} (h : BAt W a n l) (k : Nat) (hk : k ≤ n) : BAt W a k (l.take k) := by
  have hl := h.len; have hz := h.lim
  obtain ⟨b, o, hr⟩ := h.row
  refine ⟨by simp; omega, by omega, b, o, fun i hi => ?_⟩
  rw [getD_take', if_pos hi]; exact hr i (by omega)
theorem BAt.drop {W : World} {b o : Nat} {n : Nat} {l : List Int} (h : BAt W (some ⟨b, o, Option.none⟩) n l) (k : Nat) (hk : k ≤ n) : BAt W (some ⟨b, o + k, Option.none⟩) (n - k) (l.drop k) := by
  have hl := h.len; have hz := h.lim
  obtain ⟨b', o', hr⟩ := h.row
  refine ⟨by simp; omega, by omega, b, o + k, fun i hi => ?_⟩
  obtain ⟨h1, h2, h3, h4⟩ := hr (k + i) (by omega)
  cases h1
  rw [getD_drop', Nat.add_assoc]; exact ⟨rfl, h2, h3, h4⟩
/-- append(x, y...) of two slices of bytes, x in a row of its own. -/
theorem append_bytes (w : World) (ty : TypeId) (base : Nat) (a : Option Addr) (n c : Nat) (l : List Int) (h : Own w base a n c l) (a2 : Option Addr) (m c2 : Nat) (l2 : List Int) (h2 : BAt w a2 m l2) (hlim : n + m ≤ 140737488355328) (hbase : base ≤ w.heap.size) :
    ∃ a' c' w', (Builtin.append_ #[22, 22] ty #[.slice a n c, .slice a2 m c2]).run Try.prog w = .ok (.slice a' (n + m) c') w' ∧
      Own w' base a' (n + m) c' (l ++ l2) ∧ w.grownBy w' (a.map (·.block)) ∧ (∀ x, a' = some x → (∃ y, a = some y ∧ x.block = y.block) ∨ x.block = w.heap.size) := by
  obtain ⟨i0, hi0, hz0, hz1, hz2⟩ := info_parts info_u8
  have hll := h.len; have hl2 := h2.len
  have hok := h.ok.append h2.ok
  cases a2 with
  | none =>
    have h0 : m = 0 := by
      obtain ⟨b, o, hr⟩ := h2.row
      rcases Nat.eq_zero_or_pos m with h' | h'
      · exact h'
      · have := (hr 0 h').1; cases this
    subst h0
    have hl0 : l2 = [] := List.eq_nil_of_length_eq_zero hl2
    subst hl0
    rw [List.append_nil]
    refine ⟨a, c, w, ?_, h, grown_refl w _, fun x hx => .inl ⟨x, hx, rfl⟩⟩
    have hnc : n ≤ c := by
      rcases h.row.2 with ⟨hv, rfl⟩ | ⟨g, cap, cur, hv, _, _, hnc, _⟩
      · exact Nat.zero_le _
      · simp only [Value.slice.injEq, true_and] at hv; omega
    cases a <;> simp [Builtin.append_, run_underlying Try.underlying22, sizeOf, typeInfo, hi0, Builtin.lenOf, Builtin.firstCells, hnc, storeCells]
  | some x =>
    have hsrc : ∀ j u, (l2.map (Value.int .u8))[j]? = some u → w.cell? (x.add j) = some u := fun j u hu => by
      have hj : j < l2.length := by have := (List.getElem?_eq_some_iff.1 hu).1; simpa using this
      have hpos : 0 < ((l2.take m).map (Value.int .u8)).length := by simp; omega
      obtain ⟨ad, e, hs⟩ := bat_src h2 m hpos
      cases e
      rw [List.take_of_length_le (by omega)] at hs
      exact hs j u hu
    obtain ⟨v', w', hr, ho, hg, hnil, hat⟩ := run_append_own_at (P := Try.prog) w base 22 ty 5 i0 (.int .u8 0) 1 1 Try.underlying22 hi0 hz0 hz1 hz2 rfl (by decide) (.slice a n c) n _ h.row x m c2 (l2.map (Value.int .u8)) (by simp; omega) hsrc (one_u8 l2) (by unfold maxLen; omega) (by omega) hbase
    rw [← List.map_append] at ho
    have hv : ∃ a' c', v' = .slice a' (n + m) c' := by
      rcases ho.2 with ⟨rfl, e⟩ | ⟨g, cap, cur, rfl, _⟩
      · exact ⟨none, 0, by rw [e]⟩
      · exact ⟨_, _, rfl⟩
    obtain ⟨a', c', rfl⟩ := hv
    have eb : ∀ (y : Option Addr) (k d : Nat), (Value.slice y k d).ownBlock = y.map (·.block) := fun y k d => by cases y <;> rfl
    rw [eb] at hg
    rw [eb, eb] at hat
    refine ⟨a', c', w', hr, ⟨ho, hok⟩, hg, fun y hy => ?_⟩
    subst hy
    rcases hat with e | e
    · cases a with
      | none => cases e
      | some z => exact .inl ⟨z, rfl, by simpa using e⟩
    · exact .inr (by simpa using e)
theorem step_append_run {P : Program} {ops : Array Oper} {o : Oper} {a : Act} {w : World} {K : Act → World → Prop} {Q : Exit → Act → World → Prop} {E : Prop} (hgd : o.guard = none) (s x : Operand) (t tn : TypeId)
    (ho : o.op = .call { callee := .builtin .append, args := #[s, x], argTypes := #[t, tn] }) (vs vx : Value) (hs : a.eval s = vs) (hx : a.eval x = vx)
    (v' : Value) (w' : World) (hr : (Builtin.append_ #[t, tn] o.type #[vs, vx]).run P w = .ok v' w') (h : K (a.put o.dst v') w') :
    if Region.wanted o (yielded ops a.tmps) = true then Oper.wp P o a w K Q else E := by
  have hw : Region.wanted o (yielded ops a.tmps) = true := by simp [Region.wanted, hgd]
  rw [if_pos hw]
  exact Lib.wp_append_run w s x t tn ho vs vx hs hx v' w' hr h
theorem clamp_nat (q : Nat) (h : q ≤ 65536) : Str.clamp (q : Int) = q := by unfold Str.clamp; omega
theorem below_drewN (W : World) (B j : Nat) : Below B W (W.drewN j) := ⟨rfl, rfl, rfl, Nat.le_refl _, fun _ _ => rfl⟩
def IntRow (k : IntKind) (w : World) (a : Option Addr) (len cap : Nat) (zs : List Int) : Prop :=
  (a = none ∧ len = 0 ∧ cap = 0 ∧ zs = []) ∨
  ∃ x, a = some x ∧ len ≤ cap ∧ cap ≤ maxLen ∧ zs.length = cap ∧ (∀ i, i < zs.length → w.cell? (x.add i) = some (.int k (zs.getD i 0))) ∧ ∀ n ∈ zs, (Lit.int k n).wf = true
theorem IntRow.bat {w : World} {a : Option Addr} {len cap : Nat} {zs : List Int} (h : IntRow .u8 w a len cap zs) : BAt w a len (zs.take len) ∧ len ≤ cap := by
  rcases h with ⟨rfl, rfl, rfl, rfl⟩ | ⟨⟨b, off, sp⟩, rfl, hl, hm, hz, hc, hw⟩
  · exact ⟨BAt.none w, Nat.le_refl _⟩
  · refine ⟨⟨by simp; omega, by unfold maxLen at hm; omega, b, off, fun i hi => ?_⟩, hl⟩
    have hs : sp = none := by
      have := World.cell?_spot (hc 0 (by omega)); simpa [Addr.add] using this
    subst hs
    have h1 := hc i (by omega)
    rw [show (Addr.add ⟨b, off, none⟩ i) = ⟨b, off + i, none⟩ from by unfold Addr.add; split <;> simp_all] at h1
    rw [getD_take', if_pos hi]
    refine ⟨rfl, ?_, h1, ?_⟩
    · simp only [World.cell?] at h1
      by_cases hb : b < w.heap.size
      · exact hb
      · simp [Array.getElem?_eq_none (Nat.le_of_not_lt hb)] at h1
    · have : zs.getD i 0 ∈ zs := by
        rw [List.getD_eq_getElem?_getD, List.getElem?_eq_getElem (by omega)]; simp
      have := hw _ this
      generalize zs.getD i 0 = z at this ⊢
      simp [Lit.wf, IntKind.min, IntKind.max, IntKind.bits, IntKind.signed] at this; omega
end Go.Proofs.Ytppgjodehphaeaa
namespace Go.Proofs.Ytppgjodehphaeaa
open Go.RowKit Go.Shelf
set_option linter.unusedVariables false
theorem at_any (a : Option Addr) (n c : Nat) (l : List Int) (i : Nat) (w : World) (ha : BAt w a n l) (hi : i ≤ 9223372036854775807) :
    Calls Try.prog 39 #[.slice a n c, .int .i64 i] w (SameV (.int .u8 (l.getD i 0)) w) := by
  have z := ha.lim
  obtain ⟨b, o, hr⟩ := ha.row
  by_cases h : i < n
  · obtain ⟨rfl, _, d, _⟩ := hr i h
    have hz : (i : Int) < (n : Int) := by omega
    clear hr ha
    generalize l.getD i 0 = x at d ⊢
    go_enter Try.func39, Try.ntmps39
    go_wp2
    go_ret
    exact ⟨rfl, rfl⟩
  · have hz : ¬ (i : Int) < (n : Int) := by omega
    rw [getD_out (by have := ha.len; omega)]
    clear hr ha
    go_enter Try.func39, Try.ntmps39
    go_wp2
    go_ret
    exact ⟨rfl, rfl⟩
/-- The bit of an exclusive or. -/
theorem Str.bx_bit (x y : Int) (j : Nat) (hx : 0 ≤ x) (hy : 0 ≤ y) : (Str.bx x y).toNat / 2 ^ j % 2 = (x.toNat / 2 ^ j % 2 + y.toNat / 2 ^ j % 2) % 2 := by
  have h : (Str.bx x y).toNat = x.toNat ^^^ y.toNat := by unfold Str.bx; simp
  rw [h]
  have := Nat.testBit_xor x.toNat y.toNat j
  rw [Nat.testBit_eq_decide_div_mod_eq, Nat.testBit_eq_decide_div_mod_eq, Nat.testBit_eq_decide_div_mod_eq] at this
  have m1 := Nat.mod_two_eq_zero_or_one (x.toNat / 2 ^ j)
  have m2 := Nat.mod_two_eq_zero_or_one (y.toNat / 2 ^ j)
  have m3 := Nat.mod_two_eq_zero_or_one ((x.toNat ^^^ y.toNat) / 2 ^ j)
  rcases m1 with m1 | m1 <;> rcases m2 with m2 | m2 <;> rcases m3 with m3 | m3 <;> simp [m1, m2, m3] at this ⊢
def OnePow (P : Nat) : Prop := P = 128 ∨ P = 64 ∨ P = 32 ∨ P = 16 ∨ P = 8 ∨ P = 4 ∨ P = 2 ∨ P = 1
theorem OnePow.bit {P : Nat} (h : OnePow P) (x y : Int) (hx : 0 ≤ x ∧ x < 256) (hy : 0 ≤ y ∧ y < 256) : Str.bx x y / P % 2 = (x / P % 2 + y / P % 2) % 2 := by
  have hb := (Str.bx_byte hx hy).1
  have key : ∀ j, Str.bx x y / ((2 ^ j : Nat) : Int) % 2 = (x / ((2 ^ j : Nat) : Int) % 2 + y / ((2 ^ j : Nat) : Int) % 2) % 2 := fun j => by
    have h1 := Str.bx_bit x y j hx.1 hy.1
    have e1 : Str.bx x y = ((Str.bx x y).toNat : Int) := by omega
    have e2 : x = (x.toNat : Int) := by omega
    have e3 : y = (y.toNat : Int) := by omega
    generalize (Str.bx x y).toNat = a at h1 e1
    generalize x.toNat = b at h1 e2
    generalize y.toNat = c at h1 e3
    rw [e1, e2, e3, ← Int.natCast_ediv, ← Int.natCast_ediv, ← Int.natCast_ediv]
    omega
  rcases h with rfl | rfl | rfl | rfl | rfl | rfl | rfl | rfl
  · exact key 7
  · exact key 6
  · exact key 5
  · exact key 4
  · exact key 3
  · exact key 2
  · exact key 1
  · exact key 0
set_option maxHeartbeats 1000000 in
set_option maxRecDepth 100000 in
theorem one_any (x y : Int) (w : World) (hx : 0 ≤ x ∧ x < 256) (hy : 0 ≤ y ∧ y < 256) :
    Calls Try.prog 63 #[.int .u8 x, .int .u8 y] w (Drawn (.int .u8 (Str.bx x y)) w) := by
  have hz := Str.bx_byte hx hy
  have hbit : ∀ P, OnePow P → Str.bx x y / (P : Int) % 2 = (x / (P : Int) % 2 + y / (P : Int) % 2) % 2 := fun P h => h.bit x y hx hy
  generalize Str.bx x y = Z at hz hbit ⊢
  have HBIT := Lib.hid hbit; clear hbit
  obtain ⟨x1, x2⟩ := hx
  obtain ⟨y1, y2⟩ := hy
  obtain ⟨z1, z2⟩ := hz
  go_enter Try.func63, Try.ntmps63
  go_wp2
  go_loopw [5, 6] (fun o p wr => ∃ (P m : Nat), p = .int .i64 P ∧ Hid (wr = w.drewN m) ∧ ((P = 0 ∧ o = .int .u8 Z) ∨ (Hid (OnePow P) ∧ o = .int .u8 (Z / (2 * P) * (2 * P))))) (fun _ p _ => (intOf p).toNat)
  case atStart => exact ⟨128, 0, rfl, Lib.hid rfl, .inr ⟨Lib.hid (.inl rfl), by congr 1; omega⟩⟩
  case round =>
    obtain ⟨P, m, rfl, HW, hrel⟩ := hrel
    rcases hrel with ⟨rfl, rfl⟩ | ⟨HP, rfl⟩
    · go_wp2
      go_ret
      exact ⟨rfl, m, HW.out⟩
    · have hbit := HBIT.out P HP.out
      have hP : 0 < P ∧ P ≤ 128 := by have h := HP.out; unfold OnePow at h; omega
      have hPz : (0 : Int) < (P : Int) := by omega
      have hP2 : (P : Int) ≤ 128 := by omega
      have hdiv : Z / (P : Int) = 2 * (Z / (2 * P)) + Z / (P : Int) % 2 := by
        rw [show (2 * (P : Int)) = P * 2 by omega, ← Int.ediv_ediv_of_nonneg (by omega)]
        omega
      have hle : Z / (P : Int) * P ≤ Z := Int.ediv_mul_le _ (by omega)
      have hge : 0 ≤ Z / (2 * (P : Int)) := Int.ediv_nonneg z1 (by omega)
      have hnext : (P / 2 = 0 ∧ Z / (P : Int) * P = Z) ∨ (OnePow (P / 2) ∧ 2 * ((P / 2 : Nat) : Int) = P) := by
        have h := HP.out; unfold OnePow at h ⊢
        rcases h with rfl | rfl | rfl | rfl | rfl | rfl | rfl | rfl <;> first | (right; refine ⟨by decide, by decide⟩) | (left; refine ⟨by decide, by simp⟩)
      have hO1 : Z / (2 * (P : Int)) * (2 * P) = Z / (P : Int) * P - Z / (P : Int) % 2 * P := by
        clear hle hnext hbit
        generalize Z / (2 * (P : Int)) = E at hdiv ⊢
        generalize Z / (P : Int) % 2 = B at hdiv ⊢
        rw [hdiv, Int.add_mul, Int.mul_comm 2 E, Int.mul_assoc]
        omega
      have tx : (x / (P : Int)).tmod 2 = x / (P : Int) % 2 := Int.tmod_eq_emod_of_nonneg (Int.ediv_nonneg x1 (by omega))
      have ty : (y / (P : Int)).tmod 2 = y / (P : Int) % 2 := Int.tmod_eq_emod_of_nonneg (Int.ediv_nonneg y1 (by omega))
      have hge2 : 0 ≤ Z / (2 * (P : Int)) * (2 * P) := Int.mul_nonneg hge (by omega)
      by_cases hb : (x / (P : Int)).tmod 2 = (y / (P : Int)).tmod 2
      · have hbb : ((x / (P : Int)).tmod 2 != (y / (P : Int)).tmod 2) = false := by rw [hb]; simp
        have h0 : Z / (P : Int) % 2 = 0 := by rw [tx, ty] at hb; omega
        rw [h0] at hO1
        have hO2 : Z / (2 * (P : Int)) * (2 * P) = Z / (P : Int) * P := by omega
        have HO := Lib.hid hO2; have HN := Lib.hid hnext
        generalize Z / (2 * (P : Int)) * (2 * P) = O at hge2 HO ⊢
        clear hnext hdiv hbit hO1 hO2 h0 tx ty hb hle hge
        go_wp2_with fail
        go_quiet (fail)
        go_wp2
        go_roundw
        case rel =>
          refine ⟨P / 2, m + nq, by congr 1, Lib.hid (by rw [HW.out, World.drewN_drewN]), ?_⟩
          rcases HN.out with ⟨h1, h2⟩ | ⟨h1, h2⟩
          · exact .inl ⟨h1, by rw [HO.out, h2]⟩
          · exact .inr ⟨Lib.hid h1, by rw [h2, HO.out]⟩
        case measure => simp [intOf]; omega
      · have hbb : ((x / (P : Int)).tmod 2 != (y / (P : Int)).tmod 2) = true := by rw [bne_iff_ne]; exact hb
        have h1 : Z / (P : Int) % 2 = 1 := by rw [tx, ty] at hb; omega
        rw [h1] at hO1
        have hO2 : Z / (2 * (P : Int)) * (2 * P) + P = Z / (P : Int) * P := by omega
        have hO3 : Z / (2 * (P : Int)) * (2 * P) + P ≤ 255 := by omega
        have HO := Lib.hid hO2; have HN := Lib.hid hnext
        generalize Z / (2 * (P : Int)) * (2 * P) = O at hge2 HO hO3 ⊢
        clear hnext hdiv hbit hO1 hO2 h1 tx ty hb hle hge
        go_wp2_with fail
        go_quiet (fail)
        go_wp2
        go_roundw
        case rel =>
          refine ⟨P / 2, m + nq, by congr 1, Lib.hid (by rw [HW.out, World.drewN_drewN]), ?_⟩
          rcases HN.out with ⟨h1, h2⟩ | ⟨h1, h2⟩
          · exact .inl ⟨h1, by rw [HO.out, h2]⟩
          · exact .inr ⟨Lib.hid h1, by rw [h2, HO.out]⟩
        case measure => simp [intOf]; omega
end Go.Proofs.Ytppgjodehphaeaa
namespace Go.Proofs.Ytppgjodehphaeaa
open Go.RowKit Go.Shelf
set_option linter.unusedVariables false
theorem own_nil (W : World) (base : Nat) (hb : base ≤ W.heap.size) : Own (W.alloc (.cells #[] 5)) base (some ⟨W.heap.size, 0, none⟩) 0 0 [] :=
  ⟨⟨rfl, .inr ⟨W.heap.size, 0, #[], rfl, hb, heap_alloc_new W _, Nat.le_refl _, Nat.zero_le _, rfl, rfl⟩⟩, Str.ok_nil⟩
/-- append(s, x) of one byte, as the builtin makes it. -/
theorem append_one (W : World) (ty : TypeId) (base : Nat) (a : Option Addr) (n c : Nat) (l : List Int) (h : Own W base a n c l) (x : Int) (hx : 0 ≤ x ∧ x < 256) (hlim : n + 1 ≤ 140737488355328) (hbase : base ≤ W.heap.size) :
    ∃ a' c' w', (Builtin.append_ #[22, 22] ty #[.slice a n c, .slice (some ⟨W.heap.size, 0, none⟩) 1 1]).run Try.prog (W.alloc (.cells #[.int .u8 x] 5)) = .ok (.slice a' (n + 1) c') w' ∧
      Own w' base a' (n + 1) c' (l ++ [x]) ∧ Below base W w' := by
  have hb0 : Below W.heap.size W (W.alloc (.cells #[.int .u8 x] 5)) := (Below.refl _ W).alloc (Nat.le_refl _) _
  obtain ⟨a', c', w', hr, ho, hg, _⟩ := append_bytes (W.alloc (.cells #[.int .u8 x] 5)) ty base a n c l (h.below hb0) (some ⟨W.heap.size, 0, none⟩) 1 1 [x] (lit_bat (l := [x]) (heap_alloc_new W _) (fun i => by cases i with | zero => exact hx | succ i => simp) (by simp)) hlim (by simp; omega)
  refine ⟨a', c', w', hr, ho, ((hb0.mono hbase).trans ((Below.refl _ _).grown hg (by simp; omega) (fun k e => ?_)))⟩
  cases a with
  | none => cases e
  | some y => have := (h.blk y rfl).1; simp at e; omega
theorem xor_take_snoc (a b : List Int) (k : Nat) (h : k < max a.length b.length) : (Str.xor a b).take k ++ [Str.bx (a.getD k 0) (b.getD k 0)] = (Str.xor a b).take (k + 1) := by
  have hk : k < (Str.xor a b).length := by rw [Str.xor_len]; exact h
  rw [List.take_add_one, List.getElem?_eq_getElem hk]
  have := Str.xor_at a b k
  rw [List.getD_eq_getElem?_getD, List.getElem?_eq_getElem hk] at this
  simp only [Option.getD_some] at this
  rw [this]; rfl
set_option maxHeartbeats 1000000 in
set_option maxRecDepth 100000 in
theorem rxor_any (a b : Option Addr) (n m c d : Nat) (la lb : List Int) (w : World) (ha : BAt w a n la) (hb : BAt w b m lb) (hn : n ≤ 140737488355328) (hm : m ≤ 140737488355328) :
    Calls Try.prog 38 #[.slice a n c, .slice b m d] w (NewB (max n m) (Str.xor la lb) w) := by
  have e1 := ha.len; have e2 := hb.len
  have HA := Lib.hid ha; have HB := Lib.hid hb; have E1 := Lib.hid e1; have E2 := Lib.hid e2; clear ha hb e1 e2
  have hXL : (Str.xor la lb).length = max n m := by rw [Str.xor_len, E1.out, E2.out]
  have HXL := Lib.hid hXL; clear hXL
  go_enter Try.func38, Try.ntmps38
  go_wp2
  go_loopw [5, 6] (fun s i wr => ∃ (k : Nat) (a' : Option Addr) (c' : Nat), k ≤ max n m ∧ i = .int .i64 k ∧ s = .slice a' k c' ∧ Hid (Own wr w.heap.size a' k c' ((Str.xor la lb).take k) ∧ Below w.heap.size w wr)) (fun _ i _ => max n m - (intOf i).toNat)
  case atStart => exact ⟨0, _, _, Nat.zero_le _, rfl, rfl, Lib.hid ⟨own_nil w _ (Nat.le_refl _), (Below.refl _ w).alloc (Nat.le_refl _) _⟩⟩
  case round =>
    obtain ⟨k, a', c', hk, rfl, rfl, HW⟩ := hrel
    by_cases hlt : k < max n m
    · have hor : (k : Int) < (n : Int) ∨ ¬ (k : Int) < (n : Int) ∧ (k : Int) < (m : Int) := by omega
      have hatA := at_any a n c la k wr (HA.out.below HW.out.2) (by omega)
      have hatB := at_any b m d lb k wr (HB.out.below HW.out.2) (by omega)
      have hx1 := HA.out.ok k; have hx2 := HB.out.ok k
      have hone := one_any _ _ wr hx1 hx2
      have hsn := xor_take_snoc la lb k (by rw [E1.out, E2.out]; exact hlt)
      have hby := Str.bx_byte hx1 hx2
      generalize Str.bx (la.getD k 0) (lb.getD k 0) = z at hone hsn hby
      generalize la.getD k 0 = x at hatA hone
      generalize lb.getD k 0 = y at hatB hone
      have HATA := Lib.hid hatA; have HATB := Lib.hid hatB; have HONE := Lib.hid hone; have HSN := Lib.hid hsn; have HBY := Lib.hid hby
      clear hatA hatB hone hsn hby hx1 hx2
      rcases hor with h1 | ⟨h1, h2⟩
      all_goals
        go_wp2_with (first
          | (go_at_call_of 39 (Value.slice a n c); (with_reducible refine (HATA.out).mono ?_); rintro e w' ⟨rfl, rfl⟩)
          | (go_at_call_of 39 (Value.slice b m d); (with_reducible refine (HATB.out).mono ?_); rintro e w' ⟨rfl, rfl⟩)
          | (go_at_call 63; (with_reducible refine (HONE.out).mono ?_); rintro e w' ⟨rfl, j, rfl⟩
             obtain ⟨a5, c5, w5, hrun, hO5, hB5⟩ := append_one (wr.drewN j) 22 w.heap.size a' k c' _ (HW.out.1.below ⟨rfl, rfl, rfl, Nat.le_refl _, fun _ _ => rfl⟩) z HBY.out (by omega) HW.out.2.size
             have HRUN := Lib.hid hrun; have HO5 := Lib.hid hO5; have HB5 := Lib.hid hB5; clear hrun hO5 hB5)
          | (at_builtin; refine Lib.wpList_append_run _ rfl (.tmp 20) (.tmp 28) 22 22 rfl (.slice a' k c') _ (by rfl) (by rfl) _ _ HRUN.out ?_))
        go_roundw
        case rel => exact ⟨k + 1, a5, c5, by omega, by go_num, rfl, Lib.hid ⟨HSN.out ▸ HO5.out, HW.out.2.trans ((below_drewN wr _ j).trans HB5.out)⟩⟩
        case measure => simp [intOf]; omega
    · have h1 : ¬ (k : Int) < (n : Int) := by omega
      have h2 : ¬ (k : Int) < (m : Int) := by omega
      obtain rfl : k = max n m := by omega
      go_wp2
      go_ret
      have hO := HW.out.1
      rw [List.take_of_length_le (by rw [HXL.out]; exact Nat.le_refl _)] at hO
      exact ⟨_, _, rfl, hO, HW.out.2⟩
set_option maxHeartbeats 1000000 in
set_option maxRecDepth 100000 in
theorem rgap_any (a b : Option Addr) (n m c d : Nat) (la lb : List Int) (w : World) (ha : BAt w a n la) (hb : BAt w b m lb) (hn : n ≤ 140737488355328) (hm : m ≤ 140737488355328) :
    Calls Try.prog 18 #[.slice a n c, .slice b m d] w (SameV (.int .i64 (Str.gap la lb)) w) := by
  have e1 := ha.len; have e2 := hb.len
  have HA := Lib.hid ha; have HB := Lib.hid hb; have E1 := Lib.hid e1; have E2 := Lib.hid e2; clear ha hb e1 e2
  go_enter Try.func18, Try.ntmps18
  go_wp2
  go_loop [5] (fun i => ∃ k : Nat, k ≤ max n m ∧ i = .int .i64 k ∧ Hid (∀ j, j < k → la.getD j 0 = lb.getD j 0)) (fun i => max n m - (intOf i).toNat)
  case atStart => exact ⟨0, Nat.zero_le _, rfl, Lib.hid (fun j hj => by omega)⟩
  case round =>
    obtain ⟨k, hk, rfl, HE⟩ := hrel
    by_cases hlt : k < max n m
    · have hor : (k : Int) < (n : Int) ∨ ¬ (k : Int) < (n : Int) ∧ (k : Int) < (m : Int) := by omega
      have hatA := at_any a n c la k w HA.out (by omega)
      have hatB := at_any b m d lb k w HB.out (by omega)
      by_cases hx : la.getD k 0 = lb.getD k 0
      · have HE' : Hid (∀ j, j < k + 1 → la.getD j 0 = lb.getD j 0) := Lib.hid fun j hj => by
          by_cases e : j = k
          · subst e; exact hx
          · exact HE.out j (by omega)
        have hbn : (la.getD k 0 != lb.getD k 0) = false := by rw [hx]; simp
        clear hx
        generalize la.getD k 0 = x at hatA hbn
        generalize lb.getD k 0 = y at hatB hbn
        have HATA := Lib.hid hatA; have HATB := Lib.hid hatB; clear hatA hatB
        rcases hor with h1 | ⟨h1, h2⟩
        all_goals
          go_wp2_with (first
            | (go_at_call_of 39 (Value.slice a n c); (with_reducible refine (HATA.out).mono ?_); rintro e w' ⟨rfl, rfl⟩)
            | (go_at_call_of 39 (Value.slice b m d); (with_reducible refine (HATB.out).mono ?_); rintro e w' ⟨rfl, rfl⟩))
          go_round
          case rel => exact ⟨k + 1, by omega, by go_num, HE'⟩
          case measure => simp [intOf]; omega
      · have hg := Str.gap_at hx HE.out
        have HG := Lib.hid hg
        have hbn : (la.getD k 0 != lb.getD k 0) = true := by simpa using hx
        clear hx hg
        generalize la.getD k 0 = x at hatA hbn
        generalize lb.getD k 0 = y at hatB hbn
        have HATA := Lib.hid hatA; have HATB := Lib.hid hatB; clear hatA hatB
        rcases hor with h1 | ⟨h1, h2⟩
        all_goals
          go_wp2_with (first
            | (go_at_call_of 39 (Value.slice a n c); (with_reducible refine (HATA.out).mono ?_); rintro e w' ⟨rfl, rfl⟩)
            | (go_at_call_of 39 (Value.slice b m d); (with_reducible refine (HATB.out).mono ?_); rintro e w' ⟨rfl, rfl⟩))
          go_ret
          exact ⟨by rw [HG.out] <;> rfl, rfl⟩
    · have h1 : ¬ (k : Int) < (n : Int) := by omega
      have h2 : ¬ (k : Int) < (m : Int) := by omega
      have hg : Str.gap la lb = -1 := Str.gap_none fun j => by
        by_cases hj : j < k
        · exact HE.out j hj
        · have := E1.out; have := E2.out; rw [getD_out (a := la) (by omega), getD_out (a := lb) (by omega)]
      have HG := Lib.hid hg; clear hg
      go_wp2
      go_ret
      exact ⟨by rw [HG.out] <;> rfl, rfl⟩
theorem fit_take_snoc (l : List Int) (m k : Nat) (h : k < m) : (Str.fit l m).take k ++ [l.getD k 0] = (Str.fit l m).take (k + 1) := by
  have hk : k < (Str.fit l m).length := by rw [Str.fit_len]; exact h
  rw [List.take_add_one, List.getElem?_eq_getElem hk]
  have := Str.fit_at l m k
  rw [if_pos h, List.getD_eq_getElem?_getD, List.getElem?_eq_getElem hk] at this
  simp only [Option.getD_some] at this
  rw [this]; rfl
set_option maxHeartbeats 1000000 in
set_option maxRecDepth 100000 in
theorem copy_any (a : Option Addr) (n c : Nat) (l : List Int) (w : World) (ha : BAt w a n l) (hn : n ≤ 140737488355327) :
    Calls Try.prog 7 #[.slice a n c] w (NewB n l w) := by
  have e1 := ha.len
  have HA := Lib.hid ha; have E1 := Lib.hid e1; clear ha e1
  go_enter Try.func7, Try.ntmps7
  go_wp2
  go_loopw [3, 4] (fun s i wr => ∃ (k : Nat) (a' : Option Addr) (c' : Nat), k ≤ n ∧ i = .int .i64 k ∧ s = .slice a' k c' ∧ Hid (Own wr w.heap.size a' k c' (l.take k) ∧ Below w.heap.size w wr)) (fun _ i _ => n - (intOf i).toNat)
  case atStart => exact ⟨0, _, _, Nat.zero_le _, rfl, rfl, Lib.hid ⟨own_nil w _ (Nat.le_refl _), (Below.refl _ w).alloc (Nat.le_refl _) _⟩⟩
  case round =>
    obtain ⟨k, a', c', hk, rfl, rfl, HW⟩ := hrel
    by_cases hlt : k < n
    · have h1 : (k : Int) < (n : Int) := by omega
      obtain ⟨b, o, hr⟩ := (HA.out.below HW.out.2).row
      obtain ⟨rfl, _, d, q1, q2⟩ := hr k hlt
      have hsn : l.take k ++ [l.getD k 0] = l.take (k + 1) := by
        rw [List.take_add_one, List.getD_eq_getElem?_getD, List.getElem?_eq_getElem (by rw [E1.out]; exact hlt)]; rfl
      generalize l.getD k 0 = x at d q1 q2 hsn
      obtain ⟨a5, c5, w5, hrun, hO5, hB5⟩ := append_one wr 22 w.heap.size a' k c' _ HW.out.1 x ⟨q1, q2⟩ (by omega) HW.out.2.size
      have HSN := Lib.hid hsn; have HRUN := Lib.hid hrun; have HO5 := Lib.hid hO5; have HB5 := Lib.hid hB5
      clear hsn hrun hO5 hB5 hr
      go_wp2_with (at_builtin; refine Lib.wpList_append_run _ rfl (.tmp 12) (.tmp 17) 22 22 rfl (.slice a' k c') _ (by rfl) (by rfl) _ _ HRUN.out ?_)
      go_roundw
      case rel => exact ⟨k + 1, a5, c5, by omega, by go_num, rfl, Lib.hid ⟨HSN.out ▸ HO5.out, HW.out.2.trans HB5.out⟩⟩
      case measure => simp [intOf]; omega
    · have h1 : ¬ (k : Int) < (n : Int) := by omega
      obtain rfl : k = n := by omega
      go_wp2
      go_ret
      have hO := HW.out.1
      rw [List.take_of_length_le (by rw [E1.out]; exact Nat.le_refl _)] at hO
      exact ⟨_, _, rfl, hO, HW.out.2⟩
end Go.Proofs.Ytppgjodehphaeaa

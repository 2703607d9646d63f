
/-
  The document's examples of layer 3: the parsers, and wire.Each over single bytes.
-/
import Derived.Test.YtknpdcnhdmbbiaaWirePartint
import Derived.Test.YtknpdcnhdmbbiaaWireWr
namespace Go.Proofs.Ytknpdcnhdmbbiaa
open Go.RowKit Go.Shelf
set_option linter.unusedVariables false
theorem took_keep {w w' : World} {R : Nat} (h : w.grownBy w' (some R)) (U : Nat) : Keep2 w w' R (some U) := ⟨h.os, h.tape, h.output, h.size, fun k hk h1 _ => h.block k hk (fun e => h1 (by simpa using e))⟩
theorem fail_keep {w w' : World} {U : Nat} (h : w.grownBy w' (some U)) (R : Nat) : Keep2 w w' R (some U) := ⟨h.os, h.tape, h.output, h.size, fun k hk _ h2 => h.block k hk h2⟩
theorem keep2_trans {a b c : World} {R U : Nat} (h : Keep2 a b R (some U)) (k : Keep2 b c R (some U)) : Keep2 a c R (some U) := h.trans k (fun x e => .inl e)
def isV (v : Value) (u : Value) (_ : World) : Prop := u = v
theorem al1 (R U : Nat) (a : Option Addr) (c : Nat) (l : List Int) (w : World) (h : RdAt w R U a 3 c l) (hl : l = [1, 2, 3]) :
    Calls Try.prog 37 #[.pointer (some ⟨R, 0, none⟩)] w (ParseOk R U 0 [] (isV (.int .i64 258003)) w) := by
  subst hl
  have HN := Lib.hid (show Calls Try.prog 38 #[.pointer (some ⟨R, 0, none⟩)] w (TookPost R U a 3 c [1, 2, 3] 2 (.int .u16 258) w) from word_ok R U a 3 c [1, 2, 3] w h (by decide))
  have HB : Hid (∀ W, RdAt W R U (restA a c 2) 1 (c - 2) [3] → Calls Try.prog 39 #[.pointer (some ⟨R, 0, none⟩)] W (TookPost R U (restA a c 2) 1 (c - 2) [3] 1 (.int .i64 3) W)) := Lib.hid fun W h => byte_ok R U _ 1 _ [3] W h (by decide)
  clear h
  go_enter Try.func37, Try.ntmps37
  go_wp2_with (first
    | (go_at_call 38; refine (HN.out).mono ?_; rintro e w1 ⟨rfl, h1, h2⟩; have H1 := Lib.hid h1; have H2 := Lib.hid h2; clear h1 h2)
    | (go_at_call 39; refine (HB.out _ H1.out).mono ?_; rintro e w2 ⟨rfl, h3, h4⟩; have H3 := Lib.hid h3; have H4 := Lib.hid h4; clear h3 h4))
  go_ret
  exact ⟨_, _, _, rfl, H3.out, keep2_trans (took_keep H2.out U) (took_keep H4.out U), rfl⟩
theorem al2 (R U : Nat) (a : Option Addr) (c : Nat) (l : List Int) (w : World) (h : RdAt w R U a 3 c l) :
    Calls Try.prog 40 #[.pointer (some ⟨R, 0, none⟩)] w (ParseFail R U 20 w) := by
  have HN := Lib.hid (long_fail R U a 3 c l w h (by decide)); clear h
  go_enter Try.func40, Try.ntmps40
  go_wp2_with (go_at_call 41; refine (HN.out).mono ?_; rintro e w1 ⟨rfl, h1, h2, h3⟩; have H1 := Lib.hid h1; have H2 := Lib.hid h2; clear h1 h2)
  exact ⟨rfl, rfl, H1.out, fail_keep H2.out R⟩
theorem al3 (R U : Nat) (a : Option Addr) (c : Nat) (l : List Int) (w : World) (h : RdAt w R U a 3 c l) (hl : l = [1, 2, 3]) :
    Calls Try.prog 42 #[.pointer (some ⟨R, 0, none⟩)] w (ParseOk R U 1 [3] (isV (.int .i64 258)) w) := by
  subst hl
  have HN := Lib.hid (show Calls Try.prog 38 #[.pointer (some ⟨R, 0, none⟩)] w (TookPost R U a 3 c [1, 2, 3] 2 (.int .u16 258) w) from word_ok R U a 3 c [1, 2, 3] w h (by decide))
  clear h
  go_enter Try.func42, Try.ntmps42
  go_wp2_with (go_at_call 38; refine (HN.out).mono ?_; rintro e w1 ⟨rfl, h1, h2⟩; have H1 := Lib.hid h1; have H2 := Lib.hid h2; clear h1 h2)
  go_ret
  exact ⟨_, _, _, rfl, H1.out, took_keep H2.out U, rfl⟩
theorem byte1 (l : List Int) (h : 0 < l.length) : Num (l.take 1) = l.getD 0 0 := by
  cases l with
  | nil => simp at h
  | cons x l => simp [Num]
theorem al4 (R U : Nat) (a : Option Addr) (n c : Nat) (l : List Int) (w : World) (h : RdAt w R U a n c l) (h0 : 1 ≤ n) :
    Calls Try.prog 44 #[.pointer (some ⟨R, 0, none⟩)] w (ParseOk R U (n - 1) (l.drop 1) (isV (.int .i64 (l.getD 0 0))) w) := by
  have hn := byte_ok R U a n c l w h h0
  rw [byte1 l (by have := h.row.len; omega)] at hn
  have HN := Lib.hid hn; clear h hn
  go_enter Try.func44, Try.ntmps44
  go_wp2_with (go_at_call 39; refine (HN.out).mono ?_; rintro e w1 ⟨rfl, h1, h2⟩; have H1 := Lib.hid h1; have H2 := Lib.hid h2; clear h1 h2)
  go_ret
  exact ⟨_, _, _, rfl, H1.out, took_keep H2.out U, rfl⟩
theorem al5 (R U : Nat) (a : Option Addr) (n c : Nat) (l : List Int) (w : World) (h : RdAt w R U a n c l) (h0 : 1 ≤ n) :
    Calls Try.prog 46 #[.pointer (some ⟨R, 0, none⟩)] w (ParseOk R U (n - 1) (l.drop 1) (isV (.int .i64 (l.getD 0 0))) w) := by
  have hn := byte_ok R U a n c l w h h0
  rw [byte1 l (by have := h.row.len; omega)] at hn
  have HN := Lib.hid hn; clear h hn
  go_enter Try.func46, Try.ntmps46
  go_wp2_with (go_at_call 39; refine (HN.out).mono ?_; rintro e w1 ⟨rfl, h1, h2⟩; have H1 := Lib.hid h1; have H2 := Lib.hid h2; clear h1 h2)
  go_ret
  exact ⟨_, _, _, rfl, H1.out, took_keep H2.out U, rfl⟩
theorem al6 (R U : Nat) (a : Option Addr) (n c : Nat) (l : List Int) (w : World) (h : RdAt w R U a n c l) (h0 : 1 ≤ n) :
    Calls Try.prog 47 #[.pointer (some ⟨R, 0, none⟩)] w (ParseOk R U (n - 1) (l.drop 1) (isV (.int .i64 (l.getD 0 0))) w) := by
  have hn := byte_ok R U a n c l w h h0
  rw [byte1 l (by have := h.row.len; omega)] at hn
  have HN := Lib.hid hn; clear h hn
  go_enter Try.func47, Try.ntmps47
  go_wp2_with (go_at_call 39; refine (HN.out).mono ?_; rintro e w1 ⟨rfl, h1, h2⟩; have H1 := Lib.hid h1; have H2 := Lib.hid h2; clear h1 h2)
  go_ret
  exact ⟨_, _, _, rfl, H1.out, took_keep H2.out U, rfl⟩
theorem info_int : (Try.prog.info? 3).map (fun i => (i.zero, i.size, i.bytes)) = some (some (Value.int .i64 0), 1, 8) := by kernel_rfl
/-- append(s, x) of one int. -/
theorem append_int (W : World) (ty : TypeId) (base : Nat) (a : Option Addr) (n c : Nat) (xs : List Value) (h : W.ownsRow base 3 1 (.slice a n c) n xs) (x : Int) (hlim : n + 1 ≤ 1099511627776) (hbase : base ≤ W.heap.size) :
    ∃ a' c' w', (Builtin.append_ #[38, 38] ty #[.slice a n c, .slice (some ⟨W.heap.size, 0, none⟩) 1 1]).run Try.prog (W.alloc (.cells #[.int .i64 x] 3)) = .ok (.slice a' (n + 1) c') w' ∧
      w'.ownsRow base 3 1 (.slice a' (n + 1) c') (n + 1) (xs ++ [.int .i64 x]) ∧ Below base W w' := by
  obtain ⟨i0, hi0, hz0, hz1, hz2⟩ := info_parts info_int
  obtain ⟨v', w', hr, ho, hg, hnil, hat⟩ := run_append_own_at (P := Try.prog) (W.alloc (.cells #[.int .i64 x] 3)) base 38 ty 3 i0 (.int .i64 0) 1 8 Try.underlying38 hi0 hz0 hz1 hz2 rfl (by decide) (.slice a n c) n _ (h.alloc _) ⟨W.heap.size, 0, none⟩ 1 1 [.int .i64 x] rfl (cell_one_new _ _ _) (by simp [Value.oneCell']) (by unfold maxLen; omega) (by omega) (by simp; omega)
  have hv : ∃ a' c', v' = .slice a' (n + 1) c' := by
    rcases ho.2 with ⟨rfl, e⟩ | ⟨g, cap, cur, rfl, _⟩
    · omega
    · exact ⟨_, _, rfl⟩
  obtain ⟨a', c', rfl⟩ := hv
  refine ⟨a', c', w', hr, ho, ((Below.refl _ W).alloc hbase _).grown hg (by simp; omega) (fun k e => ?_)⟩
  exact (h.lt k e).1
/-- A parser of one byte. -/
def ByteParser (g : Nat) : Prop := ∀ (R U : Nat) (a : Option Addr) (n c : Nat) (l : List Int) (w : World), RdAt w R U a n c l → 1 ≤ n → Calls Try.prog g #[.pointer (some ⟨R, 0, none⟩)] w (ParseOk R U (n - 1) (l.drop 1) (isV (.int .i64 (l.getD 0 0))) w)
def EachOk (l : List Int) (w : World) (e : Ending) (w' : World) : Prop := ∃ a c, e = .returned (.tuple #[.slice a l.length c, .int .i64 0]) ∧ w'.ownsRow w.heap.size 3 1 (.slice a l.length c) l.length (l.map (.int .i64)) ∧ Below w.heap.size w w'
def EachMany (w : World) (e : Ending) (w' : World) : Prop := e = .returned (.tuple #[.slice none 0 0, .int .i64 3]) ∧ Below w.heap.size w w'
def EachPost (n most : Nat) (l : List Int) (w : World) (e : Ending) (w' : World) : Prop := if n ≤ most then EachOk l w e w' else EachMany w e w'
theorem restA_blk {a : Option Addr} {c k : Nat} {x : Addr} (h : restA a c k = some x) : ∃ y, a = some y ∧ x.block = y.block := by
  unfold restA at h
  split at h
  · exact ⟨x, h, rfl⟩
  · cases a with
    | none => cases h
    | some y =>
      simp only [Option.map_some, Option.some.injEq] at h
      refine ⟨y, rfl, ?_⟩
      rw [← h]; unfold Addr.add; split <;> rfl
set_option maxHeartbeats 1000000 in
set_option maxRecDepth 100000 in
theorem each_bytes (g : Nat) (hg : ByteParser g) (hnil : ∀ w, (binOp .neq 85 (.func (.func g) #[] #[]) .nilFunc).run Try.prog w = .ok (.bool true) w) (hent : ∀ args w, (callFunc g args).run Try.prog w = .ok (.enter g args) w)
    (a : Option Addr) (n c : Nat) (l : List Int) (most : Nat) (w : World) (hb : BAt w a n l) (hc : n ≤ c) (hn : n ≤ 1000000) (hm : most ≤ 1000000) :
    Calls Try.prog 45 #[.slice a n c, .int .i64 most, .func (.func g) #[] #[]] w (EachPost n most l w) := by
  have HB := Lib.hid hb; have HG := Lib.hid hg; have HNIL := Lib.hid hnil; have HENT := Lib.hid hent
  have HLN := Lib.hid hb.len
  clear hb hg hnil hent
  go_enter Try.func45, Try.ntmps45
  go_wp2
  go_loopw [0, 8] (fun s li wr => ∃ (k m : Nat) (a' : Option Addr) (c' : Nat) (am : Option Addr) (cm : Nat), k + m = n ∧ k ≤ most ∧ m ≤ c' ∧ s = .slice a' m c' ∧ li = .slice am k cm ∧ Hid (BAt wr a' m (l.drop k) ∧ (0 < m → ∀ y, a' = some y → y.block < w.heap.size) ∧ wr.ownsRow w.heap.size 3 1 (.slice am k cm) k ((l.take k).map (.int .i64)) ∧ Below w.heap.size w wr)) (fun s _ _ => match s with | .slice _ m _ => m | _ => 0)
  case atStart => exact ⟨0, n, a, c, none, 0, by omega, by omega, hc, rfl, rfl, Lib.hid ⟨HB.out, fun h0 y hy => HB.out.lt h0 y hy, World.ownsRow_nil _ _ _ _, Below.refl _ _⟩⟩
  case round =>
    obtain ⟨k, m, a', c', am, cm, hkm, hkm2, hmc, rfl, rfl, HW⟩ := hrel
    by_cases h0 : 0 < m
    · have h0z : (0 : Int) < (m : Int) := by omega
      have hp : ParsesOk 85 g #[] a' m c' (m - 1) ((l.drop k).drop 1) (isV (.int .i64 ((l.drop k).getD 0 0))) wr :=
        ⟨HNIL.out, HENT.out, by have := HG.out _ _ a' m c' (l.drop k) _ (part_rd wr a' m c' (l.drop k) HW.out.1 hmc) (by omega); simpa using this⟩
      have hpart := part_ok_int a' m c' g #[] (m - 1) 1 _ _ wr (by omega) (by omega) hp
      rw [getD_drop', Nat.add_zero] at hpart
      have HPART := Lib.hid hpart
      have hsn : (l.take k).map (Value.int .i64) ++ [.int .i64 (l.getD k 0)] = (l.take (k + 1)).map (Value.int .i64) := by
        rw [List.take_add_one, List.getD_eq_getElem?_getD, List.getElem?_eq_getElem (by rw [HLN.out]; omega), List.map_append]; rfl
      have HSN := Lib.hid hsn
      clear hp hpart hsn
      generalize l.getD k 0 = x at HPART HSN
      by_cases hmost : k < most
      · have hmz : ¬ (most : Int) ≤ (k : Int) := by omega
        go_wp2_with fail
        refine (HPART.out).mono ?_
        rintro e w2 ⟨v, w1, rfl, hv, _, hB2, _⟩
        have hv : v = .int .i64 x := hv
        subst hv
        have hbw2 : Below w.heap.size w w2 := HW.out.2.2.2.trans (hB2.mono HW.out.2.2.2.size)
        obtain ⟨a5, c5, w5, hrun, hO5, hB5⟩ := append_int w2 38 w.heap.size am k cm _ (HW.out.2.2.1.kept (grown_below hB2 none) (by cases am <;> simp [Value.ownBlock])) x (by omega) hbw2.size
        have hba : BAt w5 a' m (l.drop k) := (HW.out.1.below hB2).same hB5.size fun y hy1 hy2 hy3 => hB5.block y.block (HW.out.2.1 hy1 y hy2)
        have hsl := run_rest a' m c' 1 (by omega) (by omega)
        have HRUN := Lib.hid hrun; have HO5 := Lib.hid hO5; have HB5 := Lib.hid hB5; have HBW2 := Lib.hid hbw2; have HBA := Lib.hid hba
        clear hrun hO5 hB5 hbw2 hba hB2
        go_wp2_with (at_builtin; refine Lib.wpList_append_run _ rfl (.tmp 31) (.tmp 33) 38 38 rfl (.slice am k cm) _ (by rfl) (by rfl) _ _ HRUN.out ?_)
        go_roundw
        case rel => exact ⟨k + 1, m - 1, restA a' c' 1, c' - 1, a5, c5, by omega, by omega, by omega, rfl, rfl, Lib.hid ⟨by have := restA_bat HBA.out hmc 1 (by omega); rwa [List.drop_drop] at this, fun hq y hy => by obtain ⟨z, hz, e⟩ := restA_blk hy; rw [e]; exact HW.out.2.1 h0 z hz, HSN.out ▸ HO5.out, HBW2.out.trans HB5.out⟩⟩
        case measure => simp; omega
      · have hmz : (most : Int) ≤ (k : Int) := by omega
        go_wp2_with fail
        refine (HPART.out).mono ?_
        rintro e w2 ⟨v, w1, rfl, hv, _, hB2, _⟩
        have hv : v = .int .i64 x := hv
        subst hv
        have HBW2 := Lib.hid (HW.out.2.2.2.trans (hB2.mono HW.out.2.2.2.size)); clear hB2
        go_wp2
        refine bodyPost_ret (v := .tuple #[.slice none 0 0, .int .i64 3]) (by simp [results, Try.results45, go_sem]) rfl ?_
        unfold EachPost
        rw [if_neg (by omega)]
        exact ⟨rfl, HBW2.out⟩
    · obtain rfl : m = 0 := by omega
      obtain rfl : k = n := by omega
      go_wp2
      refine bodyPost_ret (v := .tuple #[.slice am k cm, .int .i64 0]) (by simp [results, Try.results45, go_sem]) rfl ?_
      unfold EachPost
      rw [if_pos hkm2]
      have h1 := HW.out.2.2.1
      rw [List.take_of_length_le (by rw [HLN.out]; exact Nat.le_refl _)] at h1
      have h2 := HLN.out
      subst h2
      exact ⟨_, _, rfl, h1, HW.out.2.2.2⟩
end Go.Proofs.Ytknpdcnhdmbbiaa

/-
  confluxref13.Few.
-/
import Derived.Test.YtedhmoihlfjbdaaPaPlain
import Derived.Test.YtedhmoihlfjbdaaRtpEnc
import Derived.Test.YtedhmoihlfjbdaaIbFold
namespace Go.Proofs.Ytedhmoihlfjbdaa
open Go.RowKit Go.Shelf
set_option linter.unusedVariables false
/-- Are the first k packets no longer than n? -/
def Pa.short (n : Int) (ls : List (List Int)) : Nat → Bool | 0 => true | k + 1 => Pa.short n ls k && decide ((ls.getD k []).length ≤ n)
theorem Pa.short_no {n : Int} {ls : List (List Int)} {k m : Nat} (h : k < m) (hn : ¬ ((ls.getD k []).length : Int) ≤ n) : Pa.short n ls m = false := by
  induction m with
  | zero => omega
  | succ m ih =>
    show (Pa.short n ls m && decide (((ls.getD m []).length : Int) ≤ n)) = false
    by_cases e : k = m
    · subst e; rw [decide_eq_false hn, Bool.and_false]
    · rw [ih (by omega)]; rfl
theorem Pa.short_at {n : Int} {ls : List (List Int)} {k m : Nat} (h : k < m) (hs : Pa.short n ls m = true) : ((ls.getD k []).length : Int) ≤ n := by
  by_cases e : ((ls.getD k []).length : Int) ≤ n
  · exact e
  · rw [Pa.short_no h e] at hs; cases hs
/-- What Few answers. -/
def Pa.few (ls : List (List Int)) (many long : Int) : Bool := decide ((ls.length : Int) ≤ many) && Pa.short long ls ls.length
set_option maxHeartbeats 1000000 in
set_option maxRecDepth 100000 in
theorem few_pks (a : Option Addr) (len c : Nat) (ls : List (List Int)) (many long : Int) (w : World) (h : PksAt w a len ls) (hlen : len ≤ 1000000000000) (hm : 0 ≤ many) :
    Calls Try.prog 13 #[.slice a len c, .int .i64 many, .int .i64 long] w (ValB (.bool (Pa.few ls many long)) w) := by
  have hcount := h.count
  have HP := Lib.hid h; clear h
  go_enter Try.func13, Try.ntmps13
  go_wp2
  go_loopw [7] (fun iv wr => ∃ k : Nat, k ≤ len ∧ iv = .int .i64 k ∧ Hid (wr = w ∧ Pa.short long ls k = true)) (fun iv _ => len - (intOf iv).toNat)
  case atStart => exact ⟨0, Nat.zero_le _, rfl, Lib.hid ⟨rfl, rfl⟩⟩
  case round =>
    obtain ⟨k, hk, rfl, HK⟩ := hrel
    obtain ⟨rfl, hsh⟩ := HK.out
    have HSH := Lib.hid hsh
    clear hsh HK
    by_cases hlt : k < len
    · have hltz : (k : Int) < (len : Int) := by omega
      by_cases hmk : (k : Int) ≤ many
      · obtain ⟨b, o, pa, pn, pc, rfl, hbl, hcell, hba, _, _⟩ := HP.out.get hlt
        have hln := hba.len
        have HLN := Lib.hid hln
        clear hba hln
        by_cases hlo : (pn : Int) ≤ long
        · have hlo' : ¬ long < (pn : Int) := by omega
          go_wp2
          go_roundw
          case rel => exact ⟨k + 1, by omega, by go_num, Lib.hid ⟨by first | trivial | rfl, by show (Pa.short long ls k && decide (((ls.getD k []).length : Int) ≤ long)) = true; rw [HSH.out, HLN.out, decide_eq_true hlo]; rfl⟩⟩
          case measure => simp [intOf]; omega
        · have hlo' : long < (pn : Int) := by omega
          have hno : Pa.few ls many long = false := by
            unfold Pa.few
            rw [Pa.short_no (k := k) (by omega) (by rw [HLN.out]; exact hlo), Bool.and_false]
          have HNO := Lib.hid hno
          clear hno
          go_wp2
          exact bodyPost_ret (v := .bool false) (by simp [results, Try.results13, go_sem]) rfl ⟨by rw [HNO.out], Below.refl _ _⟩
      · have hmk' : ¬ (len : Int) ≤ many := by omega
        have hno : Pa.few ls many long = false := by unfold Pa.few; rw [hcount, decide_eq_false hmk', Bool.false_and]
        have HNO := Lib.hid hno
        clear hno
        go_wp2
        exact bodyPost_ret (v := .bool false) (by simp [results, Try.results13, go_sem]) rfl ⟨by rw [HNO.out], Below.refl _ _⟩
    · obtain rfl : k = len := by omega
      have hltz : ¬ (k : Int) < (k : Int) := by omega
      have hyes : Pa.few ls many long = decide ((k : Int) ≤ many) := by unfold Pa.few; rw [hcount, HSH.out, Bool.and_true]
      have HYES := Lib.hid hyes
      clear hyes
      go_wp2
      exact bodyPost_ret (v := .bool (decide ((k : Int) ≤ many))) (by simp [results, Try.results13, go_sem]) rfl ⟨by rw [HYES.out], Below.refl _ _⟩
end Go.Proofs.Ytedhmoihlfjbdaa
namespace Go.Proofs.Ytedhmoihlfjbdaa
open Go.RowKit Go.Shelf
set_option linter.unusedVariables false
theorem iv_nil (B : Nat) (w : World) : (binOp .eql 112 (.func (.func 111) #[] #[.pointer (some ⟨B, 0, none⟩)]) .nilFunc).run Try.prog w = .ok (.bool false) w := by kernel_rfl
theorem iv_ent : Enters Try.prog 111 := fun args w => by
  first | kernel_rfl | simp [go_sem]
def two (x y : Int) (k : Nat) : Int := if k = 0 then x else y
set_option maxHeartbeats 400000 in
set_option maxRecDepth 100000 in
theorem iadd_core (hx hy : Nat → Int) (a b : Option Addr) (n m c d : Nat) (la lb : List Int) (v : World) (ha : BAt v a n la) (hb : BAt v b m lb) (hxb : ∀ j, 0 ≤ hx j ∧ hx j < 256) (hyb : ∀ j, 0 ≤ hy j ∧ hy j < 256) (hn : n ≤ 100000) (hm : m ≤ 100000) :
    ∃ w1 w2, v.alloc (.cells #[.int .u8 (hx 0), .int .u8 (hx 1), .int .u8 (hx 2), .int .u8 (hx 3), .int .u8 (hx 4), .int .u8 (hx 5), .int .u8 (hx 6), .int .u8 (hx 7), .slice a n c, .int .u8 (hy 0), .int .u8 (hy 1), .int .u8 (hy 2), .int .u8 (hy 3), .int .u8 (hy 4), .int .u8 (hy 5), .int .u8 (hy 6), .int .u8 (hy 7), .slice b m d] 57) = w1 ∧ w1.alloc (.cells #[.slice (some ⟨v.heap.size, 0, none⟩) 2 2] 130) = w2 ∧ Below v.heap.size v w2 ∧ Calls Try.prog 57 #[.func (.func 111) #[] #[.pointer (some ⟨w1.heap.size, 0, none⟩)]] w2 (IFoldOut [[hx 0, hx 1, hx 2, hx 3, hx 4, hx 5, hx 6, hx 7], [hy 0, hy 1, hy 2, hy 3, hy 4, hy 5, hy 6, hy 7]] [la, lb] w2) := by
  obtain ⟨w1, hw1⟩ : ∃ w1, v.alloc (.cells #[.int .u8 (hx 0), .int .u8 (hx 1), .int .u8 (hx 2), .int .u8 (hx 3), .int .u8 (hx 4), .int .u8 (hx 5), .int .u8 (hx 6), .int .u8 (hx 7), .slice a n c, .int .u8 (hy 0), .int .u8 (hy 1), .int .u8 (hy 2), .int .u8 (hy 3), .int .u8 (hy 4), .int .u8 (hy 5), .int .u8 (hy 6), .int .u8 (hy 7), .slice b m d] 57) = w1 := ⟨_, rfl⟩
  have hB1 : Below v.heap.size v w1 := by rw [← hw1]; exact (Below.refl _ v).alloc (Nat.le_refl _) _
  have hx1 : w1.heap[v.heap.size]? = some (.cells #[.int .u8 (hx 0), .int .u8 (hx 1), .int .u8 (hx 2), .int .u8 (hx 3), .int .u8 (hx 4), .int .u8 (hx 5), .int .u8 (hx 6), .int .u8 (hx 7), .slice a n c, .int .u8 (hy 0), .int .u8 (hy 1), .int .u8 (hy 2), .int .u8 (hy 3), .int .u8 (hy 4), .int .u8 (hy 5), .int .u8 (hy 6), .int .u8 (hy 7), .slice b m d] 57 (0, 0)) := by rw [← hw1]; exact lit_new rfl
  obtain ⟨w2, hw2⟩ : ∃ w2, w1.alloc (.cells #[.slice (some ⟨v.heap.size, 0, none⟩) 2 2] 130) = w2 := ⟨_, rfl⟩
  have hB2 : Below w1.heap.size w1 w2 := by rw [← hw2]; exact (Below.refl _ w1).alloc (Nat.le_refl _) _
  have hx2 : w2.heap[w1.heap.size]? = some (.cells #[.slice (some ⟨v.heap.size, 0, none⟩) 2 2] 130 (0, 0)) := by rw [← hw2]; exact lit_new rfl
  have hy2 := (hB2.block v.heap.size (Array.getElem?_eq_some_iff.1 hx1).1).trans hx1
  have hlow2 : Below v.heap.size v w2 := hB1.trans (hB2.mono hB1.size)
  have HFD : Hid (Calls Try.prog 57 #[.func (.func 111) #[] #[.pointer (some ⟨w1.heap.size, 0, none⟩)]] w2 (IFoldOut [[hx 0, hx 1, hx 2, hx 3, hx 4, hx 5, hx 6, hx 7], [hy 0, hy 1, hy 2, hy 3, hy 4, hy 5, hy 6, hy 7]] [la, lb] w2)) := Lib.hid (by
    refine ifold_any w2 _ _ (ivalsRel (fun k j => if k = 0 then hx j else hy j) (fun k => if k = 0 then a else b) (fun k => if k = 0 then n else m) (fun k => if k = 0 then c else d)) [[hx 0, hx 1, hx 2, hx 3, hx 4, hx 5, hx 6, hx 7], [hy 0, hy 1, hy 2, hy 3, hy 4, hy 5, hy 6, hy 7]] [la, lb] 0
      (ivalsPre w1.heap.size (some ⟨v.heap.size, 0, none⟩) 2 2 v.heap.size 0 (fun k j => if k = 0 then hx j else hy j) (fun k => if k = 0 then a else b) (fun k => if k = 0 then n else m) (fun k => if k = 0 then c else d)) rfl
      (ivalues_rel 3 (by omega) w1.heap.size _ 2 2 v.heap.size 0 (by omega) (fun _ => rfl) _ _ _ _) iv_ent (iv_nil _) ?_ (fun x Wp lo hi _ _ s A B row hR _ _ => hR) (fun k x Wp W h => ⟨fun j => if k = 0 then hx j else hy j, _, _, _, h⟩) (fun W hW => ?_) (by simp) ?_ ?_
    · rintro k v Wp W hk hWp hW hlt hR
      refine ⟨fun j => if k = 0 then hx j else hy j, _, _, _, hR, ?_, ?_, ?_, ?_, ?_⟩
      · match k, hk with
        | 0, _ => rfl
        | 1, _ => rfl
      · intro j; by_cases e : k = 0
        · simp only [e, if_true]; exact hxb j
        · simp only [e, if_false]; exact hyb j
      · by_cases e : k = 0
        · simp only [e, if_true]; omega
        · simp only [e, if_false]; omega
      · match k, hk with
        | 0, _ => exact (ha.below hlow2).below hW
        | 1, _ => exact (hb.below hlow2).below hW
      · intro x h0 hx'
        left
        match k, hk with
        | 0, _ => have := ha.lt h0 x hx'; have := hlow2.size; omega
        | 1, _ => have := hb.lt h0 x hx'; have := hlow2.size; omega
    · have e1 := (hW.block _ (Array.getElem?_eq_some_iff.1 hx2).1).trans hx2
      have e2 := (hW.block _ (Array.getElem?_eq_some_iff.1 hy2).1).trans hy2
      refine ⟨by rw [cell_of_row W _ _ _ _ _ e1]; rfl, fun k hk => ?_⟩
      match k, hk with
      | 0, _ => refine ⟨?_, ?_, ?_, ?_, ?_, ?_, ?_, ?_, ?_⟩ <;> (rw [cell_of_row W _ _ _ _ _ e2]; rfl)
      | 1, _ => refine ⟨?_, ?_, ?_, ?_, ?_, ?_, ?_, ?_, ?_⟩ <;> (rw [cell_of_row W _ _ _ _ _ e2]; rfl)
    · have l1 := ha.len; have l2 := hb.len
      show (Str.xor (Str.xor [] la) lb).length ≤ _
      rw [Str.xor_len, Str.xor_len]; simp; omega
    · left
      show (Str.xor (Str.xor [] [hx 0, hx 1, hx 2, hx 3, hx 4, hx 5, hx 6, hx 7]) [hy 0, hy 1, hy 2, hy 3, hy 4, hy 5, hy 6, hy 7]).length = 8
      rw [Str.xor_len, Str.xor_len]; rfl)
  exact ⟨w1, w2, hw1, hw2, hlow2, HFD.out⟩
set_option maxHeartbeats 400000 in
set_option maxRecDepth 100000 in
theorem iadd_any (hx hy : Nat → Int) (a b : Option Addr) (n m c d : Nat) (la lb : List Int) (w : World) (ha : BAt w a n la) (hb : BAt w b m lb) (hxb : ∀ j, 0 ≤ hx j ∧ hx j < 256) (hyb : ∀ j, 0 ≤ hy j ∧ hy j < 256) (hn : n ≤ 100000) (hm : m ≤ 100000) :
    Calls Try.prog 29 #[.agg #[.int .u8 (hx 0), .int .u8 (hx 1), .int .u8 (hx 2), .int .u8 (hx 3), .int .u8 (hx 4), .int .u8 (hx 5), .int .u8 (hx 6), .int .u8 (hx 7), .slice a n c], .agg #[.int .u8 (hy 0), .int .u8 (hy 1), .int .u8 (hy 2), .int .u8 (hy 3), .int .u8 (hy 4), .int .u8 (hy 5), .int .u8 (hy 6), .int .u8 (hy 7), .slice b m d]] w (IFoldOut [[hx 0, hx 1, hx 2, hx 3, hx 4, hx 5, hx 6, hx 7], [hy 0, hy 1, hy 2, hy 3, hy 4, hy 5, hy 6, hy 7]] [la, lb] w) := by
  obtain ⟨v, hv⟩ : ∃ v, ((w.alloc (.cells #[.int .u8 (hx 0), .int .u8 (hx 1), .int .u8 (hx 2), .int .u8 (hx 3), .int .u8 (hx 4), .int .u8 (hx 5), .int .u8 (hx 6), .int .u8 (hx 7), .slice a n c] 57)).alloc (.cells #[.int .u8 (hy 0), .int .u8 (hy 1), .int .u8 (hy 2), .int .u8 (hy 3), .int .u8 (hy 4), .int .u8 (hy 5), .int .u8 (hy 6), .int .u8 (hy 7), .slice b m d] 57)).alloc (.cells #[.int .u8 0, .int .u8 0, .int .u8 0, .int .u8 0, .int .u8 0, .int .u8 0, .int .u8 0, .int .u8 0, .slice none 0 0] 57) = v := ⟨_, rfl⟩
  have hzv : v.heap.size = w.heap.size + 1 + 1 + 1 := by rw [← hv]; simp
  have hBv : Below w.heap.size w v := by rw [← hv]; exact (((Below.refl _ w).alloc (Nat.le_refl _) _).alloc (by simp) _).alloc (by simp; omega) _
  have hrv : v.heap[w.heap.size + 1 + 1]? = some (.cells #[.int .u8 0, .int .u8 0, .int .u8 0, .int .u8 0, .int .u8 0, .int .u8 0, .int .u8 0, .int .u8 0, .slice none 0 0] 57 (0, 0)) := by rw [← hv]; exact lit_new (by simp)
  obtain ⟨w1, w2, hw1, hw2, hB2, hF⟩ := iadd_core hx hy a b n m c d la lb v (ha.below hBv) (hb.below hBv) hxb hyb hn hm
  rw [hzv] at hw2
  have HF := Lib.hid hF; have HV := Lib.hid hv; have HW1 := Lib.hid hw1; have HW2 := Lib.hid hw2; have HBV := Lib.hid hBv; have HB2 := Lib.hid hB2; have HRV := Lib.hid hrv; have HZV := Lib.hid hzv
  have HVA := Lib.hid (ivalues_any (some ⟨w.heap.size + 1 + 1 + 1, 0, none⟩) 2 2 w1)
  clear hv hw1 hw2 hBv hB2 hrv hF hzv ha hb hxb hyb
  obtain ⟨Post, hPost⟩ : ∃ Post, IFoldOut [[hx 0, hx 1, hx 2, hx 3, hx 4, hx 5, hx 6, hx 7], [hy 0, hy 1, hy 2, hy 3, hy 4, hy 5, hy 6, hy 7]] [la, lb] w = Post := ⟨_, rfl⟩
  rw [hPost]
  have HPOST := Lib.hid hPost; clear hPost
  go_enter Try.func29, Try.ntmps29
  go_wp2_with fail
  rw [HV.out, HW1.out]
  refine (HVA.out).mono ?_
  rintro e w3 ⟨rfl, rfl⟩
  rw [HW2.out]
  go_wp2_with fail
  refine (HF.out).mono ?_
  rintro e w4 ⟨ab, cb, rfl, hO4, hB4⟩
  have hB24 : Below v.heap.size v w4 := HB2.out.trans (hB4.mono HB2.out.size)
  have hr4 := (hB24.block _ (Array.getElem?_eq_some_iff.1 HRV.out).1).trans HRV.out
  have hz2 := HB2.out.size
  have HO4 := Lib.hid hO4; have HB24 := Lib.hid hB24
  obtain ⟨nb, hnb⟩ : ∃ nb, (Str.all [] [la, lb]).length = nb := ⟨_, rfl⟩
  rw [hnb] at HO4
  rw [hnb]
  have HNB := Lib.hid hnb
  clear hO4 hB4 hB24 HF HVA hnb
  obtain ⟨q0, hq0⟩ : ∃ q, (Str.all [] [[hx 0, hx 1, hx 2, hx 3, hx 4, hx 5, hx 6, hx 7], [hy 0, hy 1, hy 2, hy 3, hy 4, hy 5, hy 6, hy 7]]).getD 0 0 = q := ⟨_, rfl⟩
  obtain ⟨q1, hq1⟩ : ∃ q, (Str.all [] [[hx 0, hx 1, hx 2, hx 3, hx 4, hx 5, hx 6, hx 7], [hy 0, hy 1, hy 2, hy 3, hy 4, hy 5, hy 6, hy 7]]).getD 1 0 = q := ⟨_, rfl⟩
  obtain ⟨q2, hq2⟩ : ∃ q, (Str.all [] [[hx 0, hx 1, hx 2, hx 3, hx 4, hx 5, hx 6, hx 7], [hy 0, hy 1, hy 2, hy 3, hy 4, hy 5, hy 6, hy 7]]).getD 2 0 = q := ⟨_, rfl⟩
  obtain ⟨q3, hq3⟩ : ∃ q, (Str.all [] [[hx 0, hx 1, hx 2, hx 3, hx 4, hx 5, hx 6, hx 7], [hy 0, hy 1, hy 2, hy 3, hy 4, hy 5, hy 6, hy 7]]).getD 3 0 = q := ⟨_, rfl⟩
  obtain ⟨q4, hq4⟩ : ∃ q, (Str.all [] [[hx 0, hx 1, hx 2, hx 3, hx 4, hx 5, hx 6, hx 7], [hy 0, hy 1, hy 2, hy 3, hy 4, hy 5, hy 6, hy 7]]).getD 4 0 = q := ⟨_, rfl⟩
  obtain ⟨q5, hq5⟩ : ∃ q, (Str.all [] [[hx 0, hx 1, hx 2, hx 3, hx 4, hx 5, hx 6, hx 7], [hy 0, hy 1, hy 2, hy 3, hy 4, hy 5, hy 6, hy 7]]).getD 5 0 = q := ⟨_, rfl⟩
  obtain ⟨q6, hq6⟩ : ∃ q, (Str.all [] [[hx 0, hx 1, hx 2, hx 3, hx 4, hx 5, hx 6, hx 7], [hy 0, hy 1, hy 2, hy 3, hy 4, hy 5, hy 6, hy 7]]).getD 6 0 = q := ⟨_, rfl⟩
  obtain ⟨q7, hq7⟩ : ∃ q, (Str.all [] [[hx 0, hx 1, hx 2, hx 3, hx 4, hx 5, hx 6, hx 7], [hy 0, hy 1, hy 2, hy 3, hy 4, hy 5, hy 6, hy 7]]).getD 7 0 = q := ⟨_, rfl⟩
  rw [hq0, hq1, hq2, hq3, hq4, hq5, hq6, hq7]
  have HQ0 := Lib.hid hq0
  have HQ1 := Lib.hid hq1
  have HQ2 := Lib.hid hq2
  have HQ3 := Lib.hid hq3
  have HQ4 := Lib.hid hq4
  have HQ5 := Lib.hid hq5
  have HQ6 := Lib.hid hq6
  have HQ7 := Lib.hid hq7
  clear hq0 hq1 hq2 hq3 hq4 hq5 hq6 hq7
  have y0 : w4.cell? ⟨w.heap.size + 1 + 1, 0, none⟩ = some (.int .u8 0) := by rw [cell_of_row w4 _ 0 _ _ _ hr4]; rfl
  have y1 : w4.cell? ⟨w.heap.size + 1 + 1, 1, none⟩ = some (.int .u8 0) := by rw [cell_of_row w4 _ 1 _ _ _ hr4]; rfl
  have y2 : w4.cell? ⟨w.heap.size + 1 + 1, 2, none⟩ = some (.int .u8 0) := by rw [cell_of_row w4 _ 2 _ _ _ hr4]; rfl
  have y3 : w4.cell? ⟨w.heap.size + 1 + 1, 3, none⟩ = some (.int .u8 0) := by rw [cell_of_row w4 _ 3 _ _ _ hr4]; rfl
  have y4 : w4.cell? ⟨w.heap.size + 1 + 1, 4, none⟩ = some (.int .u8 0) := by rw [cell_of_row w4 _ 4 _ _ _ hr4]; rfl
  have y5 : w4.cell? ⟨w.heap.size + 1 + 1, 5, none⟩ = some (.int .u8 0) := by rw [cell_of_row w4 _ 5 _ _ _ hr4]; rfl
  have y6 : w4.cell? ⟨w.heap.size + 1 + 1, 6, none⟩ = some (.int .u8 0) := by rw [cell_of_row w4 _ 6 _ _ _ hr4]; rfl
  have y7 : w4.cell? ⟨w.heap.size + 1 + 1, 7, none⟩ = some (.int .u8 0) := by rw [cell_of_row w4 _ 7 _ _ _ hr4]; rfl
  have y8 : w4.cell? ⟨w.heap.size + 1 + 1, 8, none⟩ = some (.slice none 0 0) := by rw [cell_of_row w4 _ 8 _ _ _ hr4]; rfl
  have fB : ∀ o, w4.frozen? ⟨w.heap.size + 1 + 1, o, none⟩ = false := fun o => frozen_of_row w4 _ o _ _ hr4
  have HX4 := Lib.hid hr4; clear hr4
  go_wp2_with fail
  obtain ⟨w5, hw5⟩ : ∃ w5, putL w4 (w.heap.size + 1 + 1) 0 [.int .u8 q0, .int .u8 q1, .int .u8 q2, .int .u8 q3, .int .u8 q4, .int .u8 q5, .int .u8 q6, .int .u8 q7, .slice ab nb cb] = w5 := ⟨_, rfl⟩
  have P5 : Put w4 w5 (w.heap.size + 1 + 1) #[.int .u8 q0, .int .u8 q1, .int .u8 q2, .int .u8 q3, .int .u8 q4, .int .u8 q5, .int .u8 q6, .int .u8 q7, .slice ab nb cb] 57 := by rw [← hw5]; exact putL_is (us := [.int .u8 0, .int .u8 0, .int .u8 0, .int .u8 0, .int .u8 0, .int .u8 0, .int .u8 0, .int .u8 0, .slice none 0 0]) HX4.out rfl
  simp only [putL, Nat.zero_add, Nat.reduceAdd] at hw5
  rw [hw5]
  have r5 := P5.row
  have HFF : Hid (Post (.returned (.agg #[.int .u8 q0, .int .u8 q1, .int .u8 q2, .int .u8 q3, .int .u8 q4, .int .u8 q5, .int .u8 q6, .int .u8 q7, .slice ab nb cb])) w5) := by
    rw [← HPOST.out]
    have hz := HZV.out
    have hbv := HBV.out.size
    have hlow : Below w.heap.size w w4 := HBV.out.trans (HB24.out.mono hbv)
    exact Lib.hid ⟨ab, cb, by rw [HNB.out, HQ0.out, HQ1.out, HQ2.out, HQ3.out, HQ4.out, HQ5.out, HQ6.out, HQ7.out], by rw [HNB.out]; exact (HO4.out.off P5.grown (by omega)).mono (by omega), hlow.grown P5.grown hlow.size (fun k e => by cases e; omega)⟩
  clear hw5 P5 fB y0 y1 y2 y3 y4 y5 y6 y7 y8
  have f0 : w5.cell? ⟨w.heap.size + 1 + 1, 0, none⟩ = some (.int .u8 q0) := by rw [cell_of_row w5 _ 0 _ _ _ r5]; rfl
  have f1 : w5.cell? ⟨w.heap.size + 1 + 1, 1, none⟩ = some (.int .u8 q1) := by rw [cell_of_row w5 _ 1 _ _ _ r5]; rfl
  have f2 : w5.cell? ⟨w.heap.size + 1 + 1, 2, none⟩ = some (.int .u8 q2) := by rw [cell_of_row w5 _ 2 _ _ _ r5]; rfl
  have f3 : w5.cell? ⟨w.heap.size + 1 + 1, 3, none⟩ = some (.int .u8 q3) := by rw [cell_of_row w5 _ 3 _ _ _ r5]; rfl
  have f4 : w5.cell? ⟨w.heap.size + 1 + 1, 4, none⟩ = some (.int .u8 q4) := by rw [cell_of_row w5 _ 4 _ _ _ r5]; rfl
  have f5 : w5.cell? ⟨w.heap.size + 1 + 1, 5, none⟩ = some (.int .u8 q5) := by rw [cell_of_row w5 _ 5 _ _ _ r5]; rfl
  have f6 : w5.cell? ⟨w.heap.size + 1 + 1, 6, none⟩ = some (.int .u8 q6) := by rw [cell_of_row w5 _ 6 _ _ _ r5]; rfl
  have f7 : w5.cell? ⟨w.heap.size + 1 + 1, 7, none⟩ = some (.int .u8 q7) := by rw [cell_of_row w5 _ 7 _ _ _ r5]; rfl
  have f8 : w5.cell? ⟨w.heap.size + 1 + 1, 8, none⟩ = some (.slice ab nb cb) := by rw [cell_of_row w5 _ 8 _ _ _ r5]; rfl
  clear r5
  exact bodyPost_ret (v := .agg #[.int .u8 q0, .int .u8 q1, .int .u8 q2, .int .u8 q3, .int .u8 q4, .int .u8 q5, .int .u8 q6, .int .u8 q7, .slice ab nb cb]) (by simp [results, Try.results29, go_sem, f0, f1, f2, f3, f4, f5, f6, f7, f8]) rfl HFF.out
end Go.Proofs.Ytedhmoihlfjbdaa

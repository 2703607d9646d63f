
/-
  red.readHeaders.
-/
import Derived.Test.YtfmabpddacfbcaaRedRead
namespace Go.Proofs.Ytfmabpddacfbcaa
open Go.RowKit Go.Shelf
set_option linter.unusedVariables false
def hc1 (l : List Int) (i : Nat) : List Value := [.int .i64 (ppt l i), .int .i64 (rh l i / 1024), .slice none 0 0, .bool true, .int .i64 (rh l i % 1024)]
def hcells (l : List Int) : Nat → List Value
  | 0 => []
  | i + 1 => hcells l i ++ hc1 l i
def hlast (l : List Int) (K : Nat) : List Value := [.int .i64 (xh l K), .int .i64 0, .slice none 0 0, .bool false, .int .i64 0]
theorem hcells_len (l : List Int) : ∀ i, (hcells l i).length = i * 5
  | 0 => rfl
  | i + 1 => by simp [hcells, hc1, hcells_len l i]; omega
theorem info_hdr : (Try.prog.info? 76).map (fun i => (i.zero, i.size, i.bytes)) = some (some (Value.agg #[.int .i64 0, .int .i64 0, .slice none 0 0, .bool false, .int .i64 0]), 5, 56) := by kernel_rfl
theorem append_hdr (w : World) (ty : TypeId) (base : Nat) (a : Option Addr) (i c : Nat) (xs : List Value) (h : w.ownsRow base 76 5 (.slice a i c) i xs) (v0 v1 v2 v3 v4 : Value) (h1 : ∀ u ∈ [v0, v1, v2, v3, v4], u.oneCell' = true) (hi : i ≤ 1000000) (hbase : base ≤ w.heap.size) :
    ∃ a2 c2 w2, (Builtin.append_ #[73, 73] ty #[.slice a i c, .slice (some ⟨w.heap.size, 0, none⟩) 1 1]).run Try.prog (w.alloc (.cells #[v0, v1, v2, v3, v4] 76)) = .ok (.slice a2 (i + 1) c2) w2 ∧
      w2.ownsRow base 76 5 (.slice a2 (i + 1) c2) (i + 1) (xs ++ [v0, v1, v2, v3, v4]) ∧ Below base w w2 ∧ (∀ k, k < w.heap.size → (∀ y, a = some y → y.block ≠ k) → w2.heap[k]? = w.heap[k]?) := by
  obtain ⟨i0, hi0, hz0, hz1, hz2⟩ := info_parts info_hdr
  have hnew : (w.alloc (.cells #[v0, v1, v2, v3, v4] 76)).heap[w.heap.size]? = some (.cells #[v0, v1, v2, v3, v4] 76 (0, 0)) := lit_new rfl
  have hsrc : ∀ j u, ([v0, v1, v2, v3, v4] : List Value)[j]? = some u → (w.alloc (.cells #[v0, v1, v2, v3, v4] 76)).cell? ((⟨w.heap.size, 0, none⟩ : Addr).add j) = some u := fun j u hu => by
    rw [show (Addr.add ⟨w.heap.size, 0, none⟩ j) = ⟨w.heap.size, j, none⟩ from by unfold Addr.add; split <;> simp_all, cell_of_row _ _ j _ _ _ hnew]
    simpa using hu
  obtain ⟨v', w2, hr, ho2, hg, hnil, hat⟩ := run_append_own_at (P := Try.prog) (w.alloc (.cells #[v0, v1, v2, v3, v4] 76)) base 73 ty 76 i0 _ 5 56 Try.underlying73 hi0 hz0 hz1 hz2 rfl (by decide) (.slice a i c) i _ (h.alloc _) ⟨w.heap.size, 0, none⟩ 1 1 _ rfl hsrc h1 (by unfold maxLen; omega) (by omega) (by simp; omega)
  have hv : ∃ a' c', v' = .slice a' (i + 1) c' := by
    rcases ho2.2 with ⟨rfl, e⟩ | ⟨g, cap, cur, rfl, _⟩
    · omega
    · exact ⟨_, _, rfl⟩
  obtain ⟨a', c', rfl⟩ := hv
  have eb : (Value.slice a i c).ownBlock = a.map (·.block) := by cases a <;> rfl
  rw [eb] at hg
  have hlt := h.lt
  rw [eb] at hlt
  have hB : Below w.heap.size w (w.alloc (.cells #[v0, v1, v2, v3, v4] 76)) := (Below.refl _ w).alloc (Nat.le_refl _) _
  refine ⟨a', c', w2, hr, ho2, (hB.mono hbase).grown hg (by simp; omega) (fun k e => (hlt k e).1), fun k hk hne => ?_⟩
  exact (hg.block k (by simp; omega) (fun e => by
    cases a with
    | none => cases e
    | some y => exact hne y rfl (by simpa using e.symm))).trans (hB.block k hk)
/-- At the head of the loop. -/
structure HL (w W : World) (R U n : Nat) (l : List Int) (i : Nat) (ao : Option Addr) (co : Nat) (a : Option Addr) (c : Nat) : Prop where
  rd : RdAt W R U a (n - 4 * i) c (l.drop (4 * i))
  old : 0 < n - 4 * i → ∀ x, a = some x → x.block < w.heap.size
  out : W.ownsRow w.heap.size 76 5 (.slice ao i co) i (hcells l i)
  keep : Keep2 w W R (some U)
theorem ownsRow_keep2 {W W' : World} {base size R U n : Nat} {e : TypeId} {v : Value} {xs : List Value} (h : W.ownsRow base e size v n xs) (hk : Keep2 W W' R (some U)) (hR : R < base) (hU : U < base) : W'.ownsRow base e size v n xs := by
  refine ⟨h.1, ?_⟩
  rcases h.2 with h' | ⟨g, cap, cur, rfl, hb, hg, rest⟩
  · exact .inl h'
  · exact .inr ⟨g, cap, cur, rfl, hb, (hk.block g (Array.getElem?_eq_some_iff.1 hg).1 (by omega) (by intro e; injection e with e; omega)).trans hg, rest⟩
theorem HL.start {w : World} {R U n : Nat} {l : List Int} {a : Option Addr} {c : Nat} (h : RdAt w R U a n c l) : HL w w R U n l 0 none 0 a c :=
  ⟨h, fun h0 x hx => h.row.lt h0 x hx, World.ownsRow_nil _ _ _ _, Keep2.refl _ _ _⟩
theorem HL.next {w W w2 : World} {R U n : Nat} {l : List Int} {i : Nat} {ao : Option Addr} {co : Nat} {a : Option Addr} {c : Nat} (h : HL w W R U n l i ao co a c) (hR : R < w.heap.size) (hU : U < w.heap.size) {a2 : Option Addr} {c2 k : Nat} {l2 : List Int}
    (hR2 : RdAt w2 R U a2 (n - 4 * i - k) c2 l2) (hK2 : Keep2 W w2 R (some U)) (hst : ∀ B, (0 < n - 4 * i → ∀ x, a = some x → x.block < B) → 0 < n - 4 * i - k → ∀ x, a2 = some x → x.block < B) (v0 v1 v2 v3 v4 : Value) (h1 : ∀ u ∈ [v0, v1, v2, v3, v4], u.oneCell' = true) (ty : TypeId) (hi : i ≤ 100) :
    ∃ a3 c3 w3, (Builtin.append_ #[73, 73] ty #[.slice ao i co, .slice (some ⟨w2.heap.size + 1, 0, none⟩) 1 1]).run Try.prog ((w2.alloc (.cells #[v0, v1, v2, v3, v4] 76)).alloc (.cells #[v0, v1, v2, v3, v4] 76)) = .ok (.slice a3 (i + 1) c3) w3 ∧
      w3.heap[w2.heap.size]? = some (.cells #[v0, v1, v2, v3, v4] 76 (0, 0)) ∧ RdAt w3 R U a2 (n - 4 * i - k) c2 l2 ∧ (0 < n - 4 * i - k → ∀ x, a2 = some x → x.block < w.heap.size) ∧
      w3.ownsRow w.heap.size 76 5 (.slice a3 (i + 1) c3) (i + 1) (hcells l i ++ [v0, v1, v2, v3, v4]) ∧ Keep2 w w3 R (some U) := by
  have hz := h.keep.size; have hz2 := hK2.size
  have ho2 := ownsRow_keep2 h.out hK2 hR hU
  have hlt := ho2.lt
  have hB : Below w2.heap.size w2 (w2.alloc (.cells #[v0, v1, v2, v3, v4] 76)) := (Below.refl _ w2).alloc (Nat.le_refl _) _
  obtain ⟨a3, c3, w3, hrun, ho3, hb3, hk3⟩ := append_hdr (w2.alloc (.cells #[v0, v1, v2, v3, v4] 76)) ty w.heap.size ao i co _ (ho2.alloc _) v0 v1 v2 v3 v4 h1 (by omega) (by simp; omega)
  rw [World.size_alloc] at hrun hk3
  have hne : ∀ j, (j < w.heap.size ∨ j = w2.heap.size) → ∀ y, ao = some y → y.block ≠ j := fun j hj y hy => by
    subst hy
    have := hlt y.block rfl
    omega
  have hj3 : ∀ j, j < w.heap.size → w3.heap[j]? = w2.heap[j]? := fun j hj => (hk3 j (by omega) (hne j (.inl hj))).trans (hB.block j (by omega))
  have hs3 : w2.heap.size + 1 ≤ w3.heap.size := by have := hb3.size; simpa using this
  have hold := hst w.heap.size h.old
  refine ⟨a3, c3, w3, hrun, (hk3 _ (by omega) (hne _ (.inr rfl))).trans (lit_new rfl), ⟨(hj3 R hR).trans hR2.rd, (hj3 U hU).trans hR2.run, hR2.ne, hR2.row.same (by omega) fun x h0 hx _ => hj3 _ (hold h0 x hx), hR2.cap, hR2.far⟩, hold, ho3, ?_⟩
  have hk := keep2_trans h.keep hK2
  exact ⟨hb3.os.trans (hB.os.trans hk.os), hb3.tape.trans (hB.tape.trans hk.tape), hb3.output.trans (hB.output.trans hk.output), by omega, fun j hj e1 e2 => (hj3 j hj).trans (hk.block j hj e1 e2)⟩
def slLen : Value → Nat | .slice _ n _ => n | _ => 0
/-- What readHeaders leaves. -/
def HdsPost (R U : Nat) (a : Option Addr) (n K : Nat) (l : List Int) (w : World) (e : Ending) (w' : World) : Prop :=
  ∃ a3 c3 a' c', e = .returned (.slice a3 (K + 1) c3) ∧ w'.ownsRow w.heap.size 76 5 (.slice a3 (K + 1) c3) (K + 1) (hcells l K ++ hlast l K) ∧ RdAt w' R U a' (n - (4 * K + 1)) c' (l.drop (4 * K + 1)) ∧ Keep2 w w' R (some U) ∧ (0 < n - (4 * K + 1) → ∀ x, a' = some x → x.block < w.heap.size)
theorem rh_at (l : List Int) (i : Nat) : Num (((l.drop (4 * i)).drop 1).take 1) * 65536 + Num (((l.drop (4 * i)).drop 2).take 2) = rh l i := by
  rw [List.drop_drop, List.drop_drop]; rfl
set_option maxHeartbeats 1000000 in
set_option maxRecDepth 100000 in
theorem readHeaders_ok (R U : Nat) (a : Option Addr) (n c : Nat) (l : List Int) (K : Nat) (w : World) (h : RdAt w R U a n c l) (hK : HdOk l K) :
    Calls Try.prog 33 #[.pointer (some ⟨R, 0, none⟩)] w (HdsPost R U a n K l w) := by
  have HH := Lib.hid h; have HK := Lib.hid hK; have HLN := Lib.hid h.row.len; have HOK := Lib.hid h.row.ok
  have hlR := h.ltR; have hlU := h.ltU
  clear h hK
  go_enter Try.func33, Try.ntmps33
  go_upto_region 2 with (fail)
  go_loopw [3] (fun v wr => ∃ (i : Nat) (ao : Option Addr) (co : Nat) (a' : Option Addr) (c' : Nat), i ≤ K ∧ v = .slice ao i co ∧ Hid (HL w wr R U n l i ao co a' c')) (fun v _ => K + 1 - slLen v)
  case atStart => exact ⟨0, none, 0, a, c, Nat.zero_le _, rfl, Lib.hid (HL.start HH.out)⟩
  case round =>
    obtain ⟨i, ao, co, a', c', hi, rfl, HP⟩ := hrel
    have hk8 := HK.out.lt; have hkl := HK.out.len; have hln := HLN.out
    have h8 : ((i : Int) == 8) = false := by rw [beq_eq_false_iff_ne]; omega
    by_cases hlt : i < K
    · have HRH := readHeader_more R U a' (n - 4 * i) c' (l.drop (4 * i)) wr HP.out.rd (by omega) (by rw [getD_drop']; exact HK.out.more i hlt) (rh l i) (rh_at l i)
      rw [getD_drop', List.drop_drop, show l.getD (4 * i + 0) 0 % 128 = ppt l i from rfl] at HRH
      have HNX : Hid (∀ w2 a2 c2, RdAt w2 R U a2 (n - 4 * i - 4) c2 (l.drop (4 * i + 4)) → Keep2 wr w2 R (some U) → (∀ B, (0 < n - 4 * i → ∀ x, a' = some x → x.block < B) → 0 < n - 4 * i - 4 → ∀ x, a2 = some x → x.block < B) → _) := Lib.hid fun w2 a2 c2 h1 h2 h3 => HP.out.next hlR hlU h1 h2 h3 (.int .i64 (ppt l i)) (.int .i64 (rh l i / 1024)) (.slice none 0 0) (.bool true) (.int .i64 (rh l i % 1024)) (by intro u hu; simp at hu; rcases hu with rfl | rfl | rfl | rfl | rfl <;> rfl) 73 (by omega)
      have HRH := Lib.hid HRH
      go_wp2_with fail
      refine (HRH.out).mono ?_
      rintro e w2 ⟨a2, c2, rfl, hR2, hK2, hst2⟩
      obtain ⟨a3, c3, w3, hrun, hbx, hR3, hold3, ho3, hk3⟩ := HNX.out _ _ _ hR2 hK2 hst2
      have HRUN := Lib.hid hrun
      have c3c : w3.cell? ⟨w2.heap.size, 3, none⟩ = some (.bool true) := by rw [cell_of_row w3 _ 3 _ _ _ hbx]; rfl
      have HN : Hid (HL w w3 R U n l (i + 1) a3 c3 a2 c2) := Lib.hid ⟨by rw [show n - 4 * (i + 1) = n - 4 * i - 4 from by omega, show 4 * (i + 1) = 4 * i + 4 from by omega]; exact hR3, by rw [show n - 4 * (i + 1) = n - 4 * i - 4 from by omega]; exact hold3, ho3, hk3⟩
      clear hrun hbx hR3 hold3 ho3 hk3 hR2 hK2 hst2 HNX HRH HP hln hkl hk8
      generalize ppt l i = p at HRUN ⊢
      generalize rh l i / 1024 = o at HRUN ⊢
      generalize rh l i % 1024 = s at HRUN ⊢
      unfold hdV
      go_wp2_with (at_builtin; refine Lib.wpList_append_run _ rfl (.tmp 12) (.tmp 14) 73 73 rfl (.slice ao i co) (.slice (some ⟨w2.heap.size + 1, 0, none⟩) 1 1) (by rfl) (by rfl) _ _ HRUN.out ?_)
      go_roundw
      case rel => exact ⟨i + 1, a3, c3, a2, c2, by omega, rfl, HN⟩
      case measure => simp [slLen]; omega
    · obtain rfl : i = K := by omega
      have HRH := readHeader_last R U a' (n - 4 * i) c' (l.drop (4 * i)) wr HP.out.rd (by omega) (by rw [getD_drop']; exact HK.out.last)
      rw [getD_drop', List.drop_drop, show l.getD (4 * i + 0) 0 = xh l i from rfl] at HRH
      have HNX : Hid (∀ w2 a2 c2, RdAt w2 R U a2 (n - 4 * i - 1) c2 (l.drop (4 * i + 1)) → Keep2 wr w2 R (some U) → (∀ B, (0 < n - 4 * i → ∀ x, a' = some x → x.block < B) → 0 < n - 4 * i - 1 → ∀ x, a2 = some x → x.block < B) → _) := Lib.hid fun w2 a2 c2 h1 h2 h3 => HP.out.next hlR hlU h1 h2 h3 (.int .i64 (xh l i)) (.int .i64 0) (.slice none 0 0) (.bool false) (.int .i64 0) (by intro u hu; simp at hu; rcases hu with rfl | rfl | rfl | rfl | rfl <;> rfl) 73 (by omega)
      have HRH := Lib.hid HRH
      go_wp2_with fail
      refine (HRH.out).mono ?_
      rintro e w2 ⟨a2, c2, rfl, hR2, hK2, hst2⟩
      obtain ⟨a3, c3, w3, hrun, hbx, hR3, hold3, ho3, hk3⟩ := HNX.out _ _ _ hR2 hK2 hst2
      have HRUN := Lib.hid hrun
      have c3c : w3.cell? ⟨w2.heap.size, 3, none⟩ = some (.bool false) := by rw [cell_of_row w3 _ 3 _ _ _ hbx]; rfl
      have HFIN : Hid (HdsPost R U a n i l w (.returned (.slice a3 (i + 1) c3)) w3) := Lib.hid ⟨a3, c3, a2, c2, rfl, ho3, by rw [show n - (4 * i + 1) = n - 4 * i - 1 from by omega]; exact hR3, hk3, by rw [show n - (4 * i + 1) = n - 4 * i - 1 from by omega]; exact hold3⟩
      clear hrun hbx hR3 hold3 ho3 hk3 hR2 hK2 hst2 HNX HRH HP hln hkl hk8
      generalize xh l i = p at HRUN ⊢
      unfold hdV
      go_wp2_with (at_builtin; refine Lib.wpList_append_run _ rfl (.tmp 12) (.tmp 14) 73 73 rfl (.slice ao i co) (.slice (some ⟨w2.heap.size + 1, 0, none⟩) 1 1) (by rfl) (by rfl) _ _ HRUN.out ?_)
      go_ret
      exact HFIN.out
end Go.Proofs.Ytfmabpddacfbcaa


/-
  ImprintFolds: the walk.
-/
import Derived.Test.YtppgjodehphaeaaIbFd6
import Derived.Test.YtppgjodehphaeaaIbAlPlain
namespace Go.Proofs.Ytppgjodehphaeaa
open Go.RowKit Go.Shelf
set_option linter.unusedVariables false
set_option linter.unusedSimpArgs false
theorem mask1023 (n : Int) : 0 ≤ bits .and .i64 n 1023 ∧ bits .and .i64 n 1023 < 1024 := by
  have e1 : (BitVec.ofInt 64 n &&& BitVec.ofInt 64 1023).toNat = (BitVec.ofInt 64 n).toNat % 1024 := by
    rw [BitVec.toNat_and]; exact Nat.and_two_pow_sub_one_eq_mod _ 10
  have : bits .and .i64 n 1023 = IntKind.i64.wrap ((BitVec.ofInt 64 n &&& BitVec.ofInt 64 1023).toNat : Nat) := rfl
  rw [this, e1, IntKind.wrap_i64]; omega
set_option maxHeartbeats 2000000 in
set_option maxRecDepth 100000 in
theorem walk_ImprintFolds (a : Option Addr) (len cap : Nat) (A : Nat → Option Addr) (L C : Nat → Nat) (Z : Nat → List Int) (at' : Int) (w : World) (w0 : RowsIn .u8 w a len cap A L C Z) :
    Calls Try.prog 5 #[.slice a len cap, .int .i64 at'] w (TrueA w) := by
  have HW0 := Lib.hid w0
  have hlenm : len ≤ maxLen := w0.row.2.1
  unfold maxLen at hlenm
  clear w0
  go_enter Try.func5, Try.ntmps5
  go_wp2_with fail
  refine (ialive _).mono ?_
  rintro e w1 ⟨rfl, hB1⟩
  have HB1 := Lib.hid hB1; clear hB1
  by_cases h1 : 20 < len
  · have h1z : (20 : Int) < (len : Int) := by omega
    go_wp2_with fail
    go_ret
    exact ⟨rfl, HB1.out⟩
  have h1z : ¬ (20 : Int) < (len : Int) := by omega
  go_wp2_with fail
  obtain ⟨v0, hv0⟩ : ∃ u, ((w1.alloc (.cells #[] 27)).alloc (.cells #[.slice (some ⟨w1.heap.size, 0, none⟩) 0 0] 54)).alloc (.cells #[] 22) = u := ⟨_, rfl⟩
  have HF0 : Hid (FS w v0 (w1.heap.size + 1) w1.heap.size 0 (some ⟨w1.heap.size, 0, none⟩) 0 (some ⟨w1.heap.size + 1 + 1, 0, none⟩) 0 (fun _ _ => 0) (fun _ => none) (fun _ => []) (fun _ => 0) (fun _ => none) (fun _ => 0) (fun _ => 0) (fun _ => [])) := Lib.hid (by
    obtain ⟨u1, hu1⟩ : ∃ u, w1.alloc (.cells #[] 27) = u := ⟨_, rfl⟩
    have e1 : u1.heap.size = w1.heap.size + 1 := by rw [← hu1]; simp
    have k1 : Below w1.heap.size w1 u1 := by rw [← hu1]; exact (Below.refl _ w1).alloc (Nat.le_refl _) _
    have o1 : u1.ownsRow w1.heap.size 27 9 (.slice (some ⟨w1.heap.size, 0, none⟩) 0 0) 0 [] := by rw [← hu1]; exact World.ownsRow_made w1 _ 0 (Nat.le_refl _) (by decide) rfl
    rw [hu1] at hv0
    obtain ⟨u2, hu2⟩ : ∃ u, u1.alloc (.cells #[.slice (some ⟨w1.heap.size, 0, none⟩) 0 0] 54) = u := ⟨_, rfl⟩
    have e2 : u2.heap.size = w1.heap.size + 1 + 1 := by rw [← hu2]; simp [e1]
    have k2 : Below u1.heap.size u1 u2 := by rw [← hu2]; exact (Below.refl _ u1).alloc (Nat.le_refl _) _
    have b2 : u2.heap[w1.heap.size + 1]? = some (.cells #[.slice (some ⟨w1.heap.size, 0, none⟩) 0 0] 54 (0, 0)) := by rw [← hu2, ← e1]; exact lit_new rfl
    have o2 : u2.ownsRow w1.heap.size 27 9 (.slice (some ⟨w1.heap.size, 0, none⟩) 0 0) 0 [] := by rw [← hu2]; exact o1.alloc _
    rw [hu2] at hv0
    have k3 : Below u2.heap.size u2 v0 := by rw [← hv0]; exact (Below.refl _ u2).alloc (Nat.le_refl _) _
    have o3 : v0.ownsRow w1.heap.size 27 9 (.slice (some ⟨w1.heap.size, 0, none⟩) 0 0) 0 [] := by rw [← hv0]; exact o2.alloc _
    have p3 : v0.ownsRow w1.heap.size 22 1 (.slice (some ⟨w1.heap.size + 1 + 1, 0, none⟩) 0 0) 0 [] := by rw [← hv0, ← e2]; exact World.ownsRow_made u2 _ 0 (by omega) (by decide) rfl
    have hz := HB1.out.size
    have e3 : v0.heap.size = w1.heap.size + 1 + 1 + 1 := by rw [← hv0]; simp [e2]
    exact ⟨(k3.block _ (by omega)).trans b2, IRow.nil _ _ _ _ _ _ _ _ o3, p3, fun y z hy hz => by cases hy; cases hz; show w1.heap.size ≠ w1.heap.size + 1 + 1; omega, fun j hj => by omega, fun j hj => by omega, HB1.out.trans ((k1.trans ((k2.mono (by omega)).trans (k3.mono (by omega)))).mono hz), ⟨by omega, by omega, by omega, by omega⟩, fun y hy => by cases hy; show w1.heap.size ≠ _; omega, fun y hy => by cases hy; show w1.heap.size + 1 + 1 ≠ _; omega, fun j hj => by omega⟩)
  rw [hv0]
  clear hv0 HB1
  generalize w1.heap.size = B at *
  obtain ⟨X, hX⟩ : ∃ X, B + 1 = X := ⟨_, rfl⟩
  rw [hX] at HF0 ⊢
  clear hX
  go_loopw [6, 33] (fun pv iv wr => ∃ (r K : Nat) (ax : Option Addr) (cx : Nat) (ap : Option Addr) (cp : Nat) (h : Nat → Nat → Int) (A' : Nat → Option Addr) (bs : Nat → List Int) (C' : Nat → Nat) (pa : Nat → Option Addr) (pn pc : Nat → Nat) (ls : Nat → List Int), r ≤ len ∧ K ≤ r ∧ iv = .int .i64 r ∧ pv = .slice ap K cp ∧ Hid (FS w wr X B K ax cx ap cp h A' bs C' pa pn pc ls)) (fun _ iv _ => len - (intOf iv).toNat)
  case atStart => exact ⟨0, 0, _, _, _, _, _, _, _, _, _, _, _, _, Nat.zero_le _, Nat.le_refl _, rfl, rfl, HF0⟩
  case round =>
    obtain ⟨r, K, ax, cx, ap, cp, h, A', bs, C', pa, pn, pc, ls, hr, hKr, rfl, rfl, HQ⟩ := hrel
    clear HF0
    by_cases hlt : r < len
    · have hltz : (r : Int) < (len : Int) := by omega
      obtain ⟨_, _, b, o, hrow⟩ := HW0.out.row
      obtain ⟨rfl, hbl, hcell, hba, hLC⟩ := hrow r hlt
      have e1 : wr.cell? ⟨b, o + r, none⟩ = some (.slice (A r) (L r) (C r)) := (HQ.out.low.cell (p := ⟨b, o + r, none⟩) hbl).trans hcell
      have HBA := Lib.hid hba
      clear hrow hcell hba
      obtain ⟨l, hl⟩ : ∃ l, (Z r).take (L r) = l := ⟨_, rfl⟩
      rw [hl] at HBA
      clear hl
      generalize A r = pA at *
      generalize L r = n at *
      generalize C r = d at *
      by_cases h5 : 500 < n
      · have h5z : (500 : Int) < (n : Int) := by omega
        go_wp2_with fail
        go_ret
        exact ⟨rfl, HQ.out.low⟩
      have h5z : ¬ (500 : Int) < (n : Int) := by omega
      go_wp2_with fail
      refine (of_any pA n d l wr (HBA.out.below HQ.out.low) hLC).mono ?_
      rintro e w2 ⟨h3, h4⟩
      by_cases hf : pcodeF n l = 0
      case neg =>
        obtain ⟨rfl, hB2⟩ := h3 hf
        have hfb : (pcodeF n l == 0) = false := by simpa using hf
        have hB2' := hB2.alloc hB2.size (.cells #[.int .u8 0, .int .u8 0, .int .u8 0, .int .u8 0, .int .u8 0, .int .u8 0, .int .u8 0, .int .u8 0, .slice none 0 0] 27)
        have HN := Lib.hid (HQ.out.below hB2')
        clear h3 h4 hf hB2 hB2'
        generalize pcodeF n l = f at *
        go_wp2_with fail
        go_roundw
        case rel => exact ⟨r + 1, K, ax, cx, ap, cp, h, A', bs, C', pa, pn, pc, ls, by omega, by omega, by go_num, rfl, HN⟩
        case measure => simp [intOf]; omega
      obtain ⟨a', c', rfl, hO2, hB2⟩ := h4 hf
      have hln := HBA.out.len
      have hok := HBA.out.ok
      have hlb := pcodeF_long hf
      have hg : ∃ g : Nat → Int, (∀ j, (ihd l).getD j 0 = g j) ∧ [g 0, g 1, g 2, g 3, g 4, g 5, g 6, g 7] = ihd l ∧ ∀ j, 0 ≤ g j ∧ g j < 256 := by
        refine ⟨fun j => (ihd l).getD j 0, fun _ => rfl, rfl, fun j => ?_⟩
        have q0 := hok 0; have q1 := hok 1; have q4 := hok 4; have q5 := hok 5; have q6 := hok 6; have q7 := hok 7
        unfold ihd
        rcases j with _ | _ | _ | _ | _ | _ | _ | _ | j
        all_goals simp only [List.getD_cons_zero, List.getD_cons_succ]
        all_goals first | omega | (simp)
      obtain ⟨g, hg1, hg2, hg3⟩ := hg
      have hbl' : (l.drop 12).length = l.length - 12 := List.length_drop
      have HG1 : Hid (Got1 w pA n d l g (l.drop 12)) := Lib.hid ⟨HBA.out, hLC, by omega, hf, hg2, rfl, hg3⟩
      obtain ⟨bb, hbb⟩ : ∃ x, l.drop 12 = x := ⟨_, rfl⟩
      rw [hbb] at hO2 hbl' HG1
      rw [← hbl'] at hO2 ⊢
      have hwz := HQ.out.hX
      have hxb := HQ.out.xs.blk
      have hpb := HQ.out.apb
      obtain ⟨w3, hw3⟩ : ∃ u, w2.alloc (.cells #[.int .u8 (g 0), .int .u8 (g 1), .int .u8 (g 2), .int .u8 (g 3), .int .u8 (g 4), .int .u8 (g 5), .int .u8 (g 6), .int .u8 (g 7), .slice a' bb.length c'] 27) = u := ⟨_, rfl⟩
      have k3 : Below w2.heap.size w2 w3 := by rw [← hw3]; exact (Below.refl _ w2).alloc (Nat.le_refl _) _
      have hx3 : Bx w3 w2.heap.size (g 0) (g 1) (g 2) (g 3) (g 4) (g 5) (g 6) (g 7) a' bb.length c' := by unfold Bx; rw [← hw3]; exact lit_new rfl
      have hF3 := HQ.out.below (hB2.trans (k3.mono hB2.size))
      have hO3 : Own w3 B a' bb.length c' bb := (hO2.below k3).mono hwz.2.2.2
      obtain ⟨a2, c2, w4, hr4, a3, c3, w5, hr5, hc5, hf5, HN⟩ := hF3.push g a' c' bb pA n d l HG1.out hO3 (fun y z hy hz => by have := (hxb y hy).2; have := (hO2.blk z hz).1; omega) (fun y z hy hz => by have := (hpb z hz).2; have := (hO2.blk y hy).1; omega) (fun y hy => by have := (hO2.blk y hy).1; omega) (by omega) 54 53
      have HN := Lib.hid HN
      obtain ⟨x0, x1, x2, x3, x4, x5, x6, x7, x8⟩ := hx3.cs
      have b0 : w3.cell? ⟨X, 0, none⟩ = some (.slice ax K cx) := by rw [cell_of_row w3 _ 0 _ _ _ hF3.box]; rfl
      have hz3 : w3.heap.size = w2.heap.size + 1 := by rw [← hw3]; simp
      rw [hz3] at hr4
      unfold ibc
      rw [hg1 0, hg1 1, hg1 2, hg1 3, hg1 4, hg1 5, hg1 6, hg1 7]
      obtain ⟨nb, hnb⟩ : ∃ x, bb.length = x := ⟨_, rfl⟩
      rw [hnb] at x8 hr4 hw3 ⊢
      rw [← hw3] at x0 x1 x2 x3 x4 x5 x6 x7 x8 b0 hr4
      have HR4 := Lib.hid hr4; have HR5 := Lib.hid hr5
      clear h3 h4 hf hB2 hO2 hr4 hr5 k3 hx3 hF3 hO3 hw3 hg1 hg2 hg3 hbl' hwz hxb hpb hnb hbb HG1 hln hok hlb HQ hz3
      go_wp2_with (first
        | (at_builtin; refine Lib.wpList_append_run _ rfl (.tmp 47) (.tmp 49) 54 54 rfl (.slice ax K cx) (.slice (some ⟨w2.heap.size + 1, 0, none⟩) 1 1) (by rfl) (by rfl) _ _ HR4.out ?_)
        | (at_builtin; refine Lib.wpList_append_run _ rfl (.tmp 51) (.tmp 53) 53 53 rfl (.slice ap K cp) (.slice (some ⟨w4.heap.size, 0, none⟩) 1 1) (by rfl) (by rfl) _ _ HR5.out ?_))
      go_roundw
      case rel => exact ⟨r + 1, K + 1, a2, c2, a3, c3, _, _, _, _, _, _, _, _, by omega, by omega, by go_num, rfl, HN⟩
      case measure => simp [intOf]; omega
    · have hltz : ¬ (r : Int) < (len : Int) := by omega
      clear hltz
      have hrl : r = len := by omega
      subst hrl
      have hltz : ¬ (r : Int) < (r : Int) := by omega
      go_wp2_with fail
      have hK20 : K ≤ 20 := by omega
      have hfold := HQ.out.fold (by omega)
      unfold IFoldOut at hfold
      obtain ⟨g, hg⟩ : ∃ g : Nat → Int, ∀ j, (Str.all [] (hsOf K h)).getD j 0 = g j := ⟨_, fun _ => rfl⟩
      obtain ⟨LB, hLB⟩ : ∃ x, Str.all [] (bsOf K bs) = x := ⟨_, rfl⟩
      obtain ⟨nb, hnb⟩ : ∃ x, LB.length = x := ⟨_, rfl⟩
      rw [hLB, hnb, hg 0, hg 1, hg 2, hg 3, hg 4, hg 5, hg 6, hg 7] at hfold
      have HFO := Lib.hid hfold; have HGG := Lib.hid hg; have HLB := Lib.hid hLB; have HNB := Lib.hid hnb
      clear hfold hg hLB hnb
      refine (HFO.out).mono ?_
      rintro e w2 ⟨ab, cb, rfl, hO2, hB2⟩
      obtain ⟨w3, hw3⟩ : ∃ u, w2.alloc (.cells #[.int .u8 (g 0), .int .u8 (g 1), .int .u8 (g 2), .int .u8 (g 3), .int .u8 (g 4), .int .u8 (g 5), .int .u8 (g 6), .int .u8 (g 7), .slice ab nb cb] 27) = u := ⟨_, rfl⟩
      have k3 : Below w2.heap.size w2 w3 := by rw [← hw3]; exact (Below.refl _ w2).alloc (Nat.le_refl _) _
      have HX3 : Hid (Bx w3 w2.heap.size (g 0) (g 1) (g 2) (g 3) (g 4) (g 5) (g 6) (g 7) ab nb cb) := Lib.hid (by unfold Bx; rw [← hw3]; exact lit_new rfl)
      have HF3 := Lib.hid (HQ.out.below (hB2.trans (k3.mono hB2.size)))
      have HO3 := Lib.hid (hO2.below k3).bat
      have HCB := Lib.hid hO2.cap7
      have HW3 := Lib.hid hw3
      clear hO2 hB2 k3 hw3 HQ HFO
      obtain ⟨gx, hgx1, hgx2, hgx3⟩ := HF3.out.at
      have HGX1 := Lib.hid hgx1; have HGX2 := Lib.hid hgx2; have HGX3 := Lib.hid hgx3
      clear hgx1 hgx2 hgx3
      have b0 : w3.cell? ⟨X, 0, none⟩ = some (.slice ax K cx) := by rw [cell_of_row w3 _ 0 _ _ _ HF3.out.box]; rfl
      have HBX : Hid (∀ W, Below w3.heap.size w3 W → W.cell? ⟨X, 0, none⟩ = some (.slice ax K cx)) := Lib.hid fun W hW => by rw [cell_of_row W _ 0 _ _ _ (HF3.out.below hW).box]; rfl
      have b1 : ∀ o, (w3.alloc o).cell? ⟨X, 0, none⟩ = some (.slice ax K cx) := fun o => HBX.out _ ((Below.refl _ w3).alloc (Nat.le_refl _) o)
      rw [← HW3.out] at b1
      go_wp2_with fail
      rw [HW3.out]
      have hz3 : w3.heap.size = w2.heap.size + 1 := by rw [← HW3.out]; simp
      obtain ⟨w4, hw4⟩ : ∃ u, w3.alloc (.cells #[] 32) = u := ⟨_, rfl⟩
      have k4 : Below w3.heap.size w3 w4 := by rw [← hw4]; exact (Below.refl _ w3).alloc (Nat.le_refl _) _
      have HR4 : Hid (FRow w4 w3.heap.size (some ⟨w2.heap.size + 1, 0, none⟩) 0 0 (fun j => [h j 0, h j 1, h j 2, h j 3, h j 4, h j 5, h j 6, h j 7]) A' (fun j => (bs j).length) C') := Lib.hid ⟨fun _ => none, fun _ => 0, by rw [← hw4, ← hz3]; exact World.ownsRow_made w3 _ 0 (Nat.le_refl _) (by decide) rfl, fun j hj => by omega⟩
      have HB4 := Lib.hid k4
      rw [hw4]
      clear hw4 k4 b0 b1 hz3 HW3
      generalize w2.heap.size = PA at *
      go_loopw [12, 61] (fun rv iv wr => ∃ (k : Nat) (ar : Option Addr) (cr : Nat), k ≤ K ∧ iv = .int .i64 k ∧ rv = .slice ar k cr ∧ Hid (Below w3.heap.size w3 wr ∧ FRow wr w3.heap.size ar k cr (fun j => [h j 0, h j 1, h j 2, h j 3, h j 4, h j 5, h j 6, h j 7]) A' (fun j => (bs j).length) C')) (fun _ iv _ => K - (intOf iv).toNat)
      case atStart => exact ⟨0, _, _, Nat.zero_le _, rfl, rfl, Lib.hid ⟨HB4.out, HR4.out⟩⟩
      case round =>
        obtain ⟨k, ar, cr, hk, rfl, rfl, HQ⟩ := hrel
        clear HR4 HB4
        by_cases hlk : k < K
        · have hltk : (k : Int) < (K : Int) := by omega
          obtain rfl := HGX1.out (by omega)
          obtain ⟨c0, c1, c2, c3, c4, c5, c6, c7, c8⟩ := HGX3.out wr HQ.out.1 k hlk
          simp only [Nat.zero_add] at c0 c1 c2 c3 c4 c5 c6 c7 c8
          have hby := (HF3.out.got k hlk).by8
          obtain ⟨wy, hwy⟩ : ∃ u, wr.alloc (.cells #[.int .u8 (h k 0), .int .u8 (h k 1), .int .u8 (h k 2), .int .u8 (h k 3), .int .u8 (h k 4), .int .u8 (h k 5), .int .u8 (h k 6), .int .u8 (h k 7), .slice (A' k) (bs k).length (C' k)] 27) = u := ⟨_, rfl⟩
          have ky : Below wr.heap.size wr wy := by rw [← hwy]; exact (Below.refl _ wr).alloc (Nat.le_refl _) _
          have hxy : Bx wy wr.heap.size (h k 0) (h k 1) (h k 2) (h k 3) (h k 4) (h k 5) (h k 6) (h k 7) (A' k) (bs k).length (C' k) := by unfold Bx; rw [← hwy]; exact lit_new rfl
          obtain ⟨x0, x1, x2, x3, x4, x5, x6, x7, x8⟩ := hxy.cs
          rw [← hwy] at x0 x1 x2 x3 x4 x5 x6 x7 x8
          have HAS := Lib.hid (as_any (h k 0) (h k 1) (h k 2) (h k 3) (h k 4) (h k 5) (h k 6) (h k 7) (A' k) (bs k).length (C' k) wy (hby 0) (hby 1) (hby 2) (hby 3) (hby 4) (hby 5) (hby 6) (hby 7))
          have HNX : Hid (∀ w5 (ah : Option Addr) (ch : Nat), Own w5 wy.heap.size ah 8 ch [h k 0, h k 1, h k 2, h k 3, h k 4, h k 5, h k 6, h k 7] → Below wy.heap.size wy w5 → ∃ a2 c2 w6, (Builtin.append_ #[57, 57] 57 #[.slice ar k cr, .slice (some ⟨w5.heap.size, 0, none⟩) 1 1]).run Try.prog (w5.alloc (.cells #[.slice ah 8 ch, .slice (A' k) (bs k).length (C' k)] 32)) = .ok (.slice a2 (k + 1) c2) w6 ∧ Below w3.heap.size w3 w6 ∧ FRow w6 w3.heap.size a2 (k + 1) c2 (fun j => [h j 0, h j 1, h j 2, h j 3, h j 4, h j 5, h j 6, h j 7]) A' (fun j => (bs j).length) C') := Lib.hid fun w5 ah ch hO hB => by
            have hz := HQ.out.1.size
            have hB5 : Below wr.heap.size wr w5 := ky.trans (hB.mono ky.size)
            have hz5 := hB5.size
            have hzy := ky.size
            obtain ⟨a2, c2, w6, h1, h2, h3, _⟩ := append_rbits w5 57 w3.heap.size ar k cr _ A' (fun j => (bs j).length) C' (HQ.out.2.below hB5) ah ch (hO.mono (by omega)) (fun y z hy hz' => by have := (HQ.out.2.blk y hy).2; have := (hO.blk z hz').1; omega) (by omega) (by omega)
            exact ⟨a2, c2, w6, h1, (HQ.out.1.trans (hB5.mono hz)).trans h3, h2⟩
          have HWY := Lib.hid hwy
          clear hwy ky hxy hby
          go_wp2_with fail
          rw [HWY.out]
          refine (HAS.out).mono ?_
          rintro e w5 ⟨ah, ch, rfl, hO5, hB5⟩
          obtain ⟨a2, c2', w6, hrun, hB6, hR6⟩ := HNX.out w5 ah ch hO5 hB5
          have HRUN := Lib.hid hrun
          have HN := Lib.hid (And.intro hB6 hR6)
          clear hrun hB6 hR6 hO5 hB5 HNX HAS HQ x0 x1 x2 x3 x4 x5 x6 x7 x8 c0 c1 c2 c3 c4 c5 c6 c7 c8
          go_wp2_with (at_builtin; refine Lib.wpList_append_run _ rfl (.tmp 65) (.tmp 68) 57 57 rfl (.slice ar k cr) (.slice (some ⟨w5.heap.size, 0, none⟩) 1 1) (by rfl) (by rfl) _ _ HRUN.out ?_)
          go_roundw
          case rel => exact ⟨k + 1, a2, c2', by omega, by go_num, rfl, HN⟩
          case measure => simp [intOf]; omega
        · have hkk : k = K := by omega
          subst hkk
          have hltk : ¬ (k : Int) < (k : Int) := by omega
          have HFA := Lib.hid (HF3.out.fat HQ.out.1 HQ.out.2)
          have HB3 := Lib.hid HQ.out.1
          obtain ⟨x0, x1, x2, x3, x4, x5, x6, x7, x8⟩ := (HX3.out.below HQ.out.1).cs
          have hgb : ∀ j, 0 ≤ g j ∧ g j < 256 := fun j => by
            rw [← HGG.out j]
            have := xk_byte (hsOf k h) (hsOf_ok fun i hi => (HF3.out.got i hi).by8) k j
            unfold xk at this
            rwa [List.take_of_length_le (by rw [hsOf_len]; exact Nat.le_refl _)] at this
          have HAS := Lib.hid (as_any (g 0) (g 1) (g 2) (g 3) (g 4) (g 5) (g 6) (g 7) ab nb cb wr (hgb 0) (hgb 1) (hgb 2) (hgb 3) (hgb 4) (hgb 5) (hgb 6) (hgb 7))
          have hbl := HF3.out.blen
          have HBL := Lib.hid hbl
          have hrall : ∀ W, Below wr.heap.size wr W → Calls Try.prog 24 #[.slice ar k cr] W (RAllOut (hsOf k h) (bsOf k bs) W) := fun W hW => rall_any ar k cr (hsOf k h) (bsOf k bs) W (HFA.out.below hW) (hsOf_len k h) (bsOf_len k bs) (by omega) (fun i _ => by have := HBL.out i; omega)
          have hnb4 : nb ≤ 488 := by
            have := HBL.out k
            rw [List.take_of_length_le (by rw [bsOf_len]; exact Nat.le_refl _), HLB.out, HNB.out] at this; exact this
          have hhead := fd_head (hsOf k h) (hsOf_8 k h) g HGG.out
          have HRA := Lib.hid hrall; have HHD := Lib.hid hhead; have HGB := Lib.hid hgb
          clear hrall hhead hgb hbl HQ HFA
          go_wp2_with fail
          refine (HAS.out).mono ?_
          rintro e w5 ⟨ah, ch, rfl, hO5, hB5⟩
          have HB5 := Lib.hid hB5
          have HO5 := Lib.hid hO5.bat
          clear hO5 hB5 HAS
          go_wp2_with fail
          refine (HRA.out _ HB5.out).mono ?_
          rintro e w6 ⟨ah2, ch2, ab2, nb2, cb2, rfl, hA6, hA7, hB6⟩
          rw [← HHD.out] at hA6
          rw [HLB.out] at hA7
          have HB6 := Lib.hid (HB5.out.trans (hB6.mono HB5.out.size))
          have hsm := rsame12_any ah ab ah2 ab2 8 nb ch cb 8 nb2 ch2 cb2 _ LB _ LB w6 (HO5.out.below hB6) ((HO3.out.below HB3.out).below HB6.out) hA6 hA7 (by omega) (by have := hA7.len; have := HNB.out; omega)
          rw [decide_eq_true (rfl : [g 0, g 1, g 2, g 3, g 4, g 5, g 6, g 7] = [g 0, g 1, g 2, g 3, g 4, g 5, g 6, g 7]), gap_self] at hsm
          have HSM := Lib.hid hsm
          clear hA6 hA7 hB6 hsm HB5 HO5 HRA HHD
          clear x0 x1 x2 x3 x4 x5 x6 x7 x8
          go_wp2_with fail
          refine (HSM.out).mono ?_
          rintro e w7 ⟨rfl, hB7⟩
          have HB7 : Hid (Below w3.heap.size w3 w7) := Lib.hid ((HB3.out.trans (HB6.out.mono HB3.out.size)).trans (hB7.mono (by have := HB3.out.size; have := HB6.out.size; omega)))
          clear hB7 HSM HB6 HB3
          have b0 := HBX.out _ HB7.out
          obtain ⟨x0, x1, x2, x3, x4, x5, x6, x7, x8⟩ := (HX3.out.below HB7.out).cs
          simp only [show (decide ((-1 : Int) < 0)) = true from by decide, Bool.true_and]
          by_cases hk0 : k = 0
          · subst hk0
            have hg0 : ∀ j, g j = 0 := fun j => by rw [← HGG.out j]; simp [hsOf, Str.all]
            have hLB0 : LB = [] := by rw [← HLB.out]; simp [bsOf, Str.all]
            have hem := empty_any (g 0) (g 1) (g 2) (g 3) (g 4) (g 5) (g 6) (g 7) ab nb cb LB w7 (HO3.out.below HB7.out)
            rw [hLB0, show (decide ([g 0, g 1, g 2, g 3, g 4, g 5, g 6, g 7] = [0, 0, 0, 0, 0, 0, 0, 0]) && decide (Str.gap [] [] < 0)) = true from by rw [hg0 0, hg0 1, hg0 2, hg0 3, hg0 4, hg0 5, hg0 6, hg0 7, gap_self]; decide] at hem
            have HEM := Lib.hid hem
            clear hem hg0 hLB0
            go_wp2_with fail
            refine (HEM.out).mono ?_
            rintro e w8 ⟨rfl, hB8⟩
            have HB8 := Lib.hid ((HF3.out.below HB7.out).low.trans (hB8.mono (HF3.out.below HB7.out).low.size))
            go_wp2_with fail
            go_ret
            exact ⟨rfl, HB8.out⟩
          have hkz : ((k : Int) == 0) = false := by simpa using hk0
          have hm := mask1023 at'
          obtain ⟨q, hq'⟩ : ∃ q : Nat, bits .and .i64 at' 1023 = (q : Int) := ⟨(bits .and .i64 at' 1023).toNat, by omega⟩
          have e3 : ((q : Int)).tmod (k : Int) = ((q % k : Nat) : Int) := by rw [Int.tmod_eq_emod_of_nonneg (by omega)]; simp
          have htk : q % k < k := Nat.mod_lt _ (by omega)
          generalize q % k = t at e3 htk
          obtain ⟨w8, hw8⟩ : ∃ u, w7.alloc (.cells #[.int .u8 (g 0), .int .u8 (g 1), .int .u8 (g 2), .int .u8 (g 3), .int .u8 (g 4), .int .u8 (g 5), .int .u8 (g 6), .int .u8 (g 7), .slice ab nb cb] 27) = u := ⟨_, rfl⟩
          have k8 : Below w7.heap.size w7 w8 := by rw [← hw8]; exact (Below.refl _ w7).alloc (Nat.le_refl _) _
          have HX8 : Hid (Bx w8 w7.heap.size (g 0) (g 1) (g 2) (g 3) (g 4) (g 5) (g 6) (g 7) ab nb cb) := Lib.hid (by unfold Bx; rw [← hw8]; exact lit_new rfl)
          have HB8 := Lib.hid k8
          have b8 : w8.cell? ⟨X, 0, none⟩ = some (.slice ax k cx) := HBX.out _ (HB7.out.trans (k8.mono HB7.out.size))
          rw [← hw8] at b8
          have HW8 := Lib.hid hw8
          clear k8 hw8 hm
          go_wp2_with fail
          rw [HW8.out]
          have hHok := hsOf_ok (K := k) (h := h) fun i hi => (HF3.out.got i hi).by8
          have hBok := HF3.out.bok
          have HR8 : Hid (RR w7 w8 w7.heap.size (hsOf k h) (bsOf k bs) t 0 nb g ab nb cb LB) := Lib.hid (RR.start HX8.out ((HO3.out.below HB7.out).below HB8.out) (fun x h0 hx => by have := HO3.out.lt h0 x hx; have := HB7.out.size; omega) HGG.out HLB.out (by omega) HCB.out HB8.out (Nat.le_refl _) hHok hBok)
          have HHK := Lib.hid hHok; have HBK := Lib.hid hBok
          clear hHok hBok HX8 HB8 b8 HW8 hq' x0 x1 x2 x3 x4 x5 x6 x7 x8 b0 HGB
          generalize w7.heap.size = PR at *
          go_loopw [97] (fun iv wr => ∃ (i : Nat) (ρ : Nat → Int) (ar : Option Addr) (nr cr : Nat) (R : List Int), i ≤ k ∧ iv = .int .i64 i ∧ Hid (RR w7 wr PR (hsOf k h) (bsOf k bs) t i nb ρ ar nr cr R)) (fun iv _ => k - (intOf iv).toNat)
          case atStart => exact ⟨0, g, ab, nb, cb, LB, Nat.zero_le _, rfl, HR8⟩
          case round =>
            obtain ⟨i, ρ, ar, nr, cr, R, hi, rfl, HQ⟩ := hrel
            clear HR8
            have HBW : Hid (Below w3.heap.size w3 wr) := Lib.hid (HB7.out.trans (HQ.out.low.mono HB7.out.size))
            by_cases hli : i < k
            · have hlti : (i : Int) < (k : Int) := by omega
              obtain rfl := HGX1.out (by omega)
              obtain ⟨c0, c1, c2, c3, c4, c5, c6, c7, c8⟩ := HGX3.out wr HBW.out i hli
              simp only [Nat.zero_add] at c0 c1 c2 c3 c4 c5 c6 c7 c8
              obtain ⟨wy, hwy⟩ : ∃ u, wr.alloc (.cells #[.int .u8 (h i 0), .int .u8 (h i 1), .int .u8 (h i 2), .int .u8 (h i 3), .int .u8 (h i 4), .int .u8 (h i 5), .int .u8 (h i 6), .int .u8 (h i 7), .slice (A' i) (bs i).length (C' i)] 27) = u := ⟨_, rfl⟩
              have ky : Below wr.heap.size wr wy := by rw [← hwy]; exact (Below.refl _ wr).alloc (Nat.le_refl _) _
              have HRY := Lib.hid (HQ.out.below ky)
              by_cases hit : i = t
              · subst hit
                have hne : ((i : Int) != (i : Int)) = false := by simp
                have HN : Hid (RR w7 wy PR (hsOf k h) (bsOf k bs) i (i + 1) nb ρ ar nr cr R) := Lib.hid (HRY.out.skip HHK.out HBK.out (by rw [hsOf_len]; exact hli) (by rw [bsOf_len]; exact hli))
                have HWY := Lib.hid hwy
                clear hwy ky HRY HQ HBW
                go_wp2_with fail
                rw [HWY.out]
                go_roundw
                case rel => exact ⟨i + 1, ρ, ar, nr, cr, R, by omega, by go_num, HN⟩
                case measure => simp [intOf]; omega
              · have hne : ((i : Int) != (t : Int)) = true := by
                  have : (i : Int) ≠ (t : Int) := by omega
                  simpa using this
                have hgot := HF3.out.got i hli
                have hbli := HF3.out.len i hli
                have hxy : Bx wy wr.heap.size (h i 0) (h i 1) (h i 2) (h i 3) (h i 4) (h i 5) (h i 6) (h i 7) (A' i) (bs i).length (C' i) := by unfold Bx; rw [← hwy]; exact lit_new rfl
                obtain ⟨x0, x1, x2, x3, x4, x5, x6, x7, x8⟩ := hxy.cs
                obtain ⟨y0, y1, y2, y3, y4, y5, y6, y7, y8⟩ := HRY.out.box.cs
                rw [← hwy] at x0 x1 x2 x3 x4 x5 x6 x7 x8 y0 y1 y2 y3 y4 y5 y6 y7 y8
                have hxo := (((HF3.out.xs.own i hli).bat.below HBW.out).below ky)
                have hadd := iadd_any ρ (h i) ar (A' i) nr (bs i).length cr (C' i) R (bs i) wy HRY.out.bat hxo HRY.out.by8 hgot.by8 (by have := HRY.out.le; omega) (by omega)
                unfold IFoldOut at hadd
                obtain ⟨ρ', hρ'⟩ : ∃ f : Nat → Int, ∀ j, (Str.all [] [[ρ 0, ρ 1, ρ 2, ρ 3, ρ 4, ρ 5, ρ 6, ρ 7], [h i 0, h i 1, h i 2, h i 3, h i 4, h i 5, h i 6, h i 7]]).getD j 0 = f j := ⟨_, fun _ => rfl⟩
                obtain ⟨n', hn'⟩ : ∃ x, (Str.all [] [R, bs i]).length = x := ⟨_, rfl⟩
                rw [hρ' 0, hρ' 1, hρ' 2, hρ' 3, hρ' 4, hρ' 5, hρ' 6, hρ' 7, hn'] at hadd
                have HADD := Lib.hid hadd
                have HNX : Hid (∀ w9 W2 (a9 : Option Addr) (c9 : Nat), Own w9 wy.heap.size a9 n' c9 (Str.all [] [R, bs i]) → Below wy.heap.size wy w9 → Put w9 W2 PR #[.int .u8 (ρ' 0), .int .u8 (ρ' 1), .int .u8 (ρ' 2), .int .u8 (ρ' 3), .int .u8 (ρ' 4), .int .u8 (ρ' 5), .int .u8 (ρ' 6), .int .u8 (ρ' 7), .slice a9 n' c9] 27 → RR w7 W2 PR (hsOf k h) (bsOf k bs) t (i + 1) nb ρ' a9 n' c9 (Str.all [] [R, bs i])) := Lib.hid fun w9 W2 a9 c9 hO hB hp => HRY.out.next hB HHK.out HBK.out (by rw [hsOf_len]; exact hli) (by rw [bsOf_len]; exact hli) hit (h i) (bs i) (hsOf_at hli) hgot.by8 (bsOf_at hli) (by omega) ρ' hρ' a9 n' c9 hn' hO hp
                have HWY := Lib.hid hwy
                have HBXY := Lib.hid HRY.out.box
                clear hwy ky HRY HQ HBW hgot hbli hxy hxo hadd hρ' hn'
                go_wp2_with fail
                rw [HWY.out]
                refine (HADD.out).mono ?_
                rintro e w9 ⟨a9, c9, rfl, hO9, hB9⟩
                have hbx9 := HBXY.out.below hB9
                obtain ⟨z0, z1, z2, z3, z4, z5, z6, z7, z8⟩ := hbx9.cs
                have zf : ∀ o, w9.frozen? ⟨PR, o, none⟩ = false := fun o => frozen_of_row w9 _ o _ _ hbx9
                have HN9 := Lib.hid (fun W2 => HNX.out w9 W2 a9 c9 hO9 hB9)
                have HB9 := Lib.hid hbx9
                clear hO9 hB9 HNX HADD HBXY hbx9 x0 x1 x2 x3 x4 x5 x6 x7 x8 y0 y1 y2 y3 y4 y5 y6 y7 y8 c0 c1 c2 c3 c4 c5 c6 c7 c8
                go_wp2_with fail
                obtain ⟨wn, hwn⟩ : ∃ u, putL w9 PR 0 [.int .u8 (ρ' 0), .int .u8 (ρ' 1), .int .u8 (ρ' 2), .int .u8 (ρ' 3), .int .u8 (ρ' 4), .int .u8 (ρ' 5), .int .u8 (ρ' 6), .int .u8 (ρ' 7), .slice a9 n' c9] = u := ⟨_, rfl⟩
                have PN : Put w9 wn PR #[.int .u8 (ρ' 0), .int .u8 (ρ' 1), .int .u8 (ρ' 2), .int .u8 (ρ' 3), .int .u8 (ρ' 4), .int .u8 (ρ' 5), .int .u8 (ρ' 6), .int .u8 (ρ' 7), .slice a9 n' c9] 27 := by rw [← hwn]; exact putL_is (us := [.int .u8 (ρ 0), .int .u8 (ρ 1), .int .u8 (ρ 2), .int .u8 (ρ 3), .int .u8 (ρ 4), .int .u8 (ρ 5), .int .u8 (ρ 6), .int .u8 (ρ 7), .slice ar nr cr]) HB9.out rfl
                simp only [putL, Nat.zero_add, Nat.reduceAdd] at hwn
                rw [hwn]
                have HN := Lib.hid (HN9.out wn PN)
                clear hwn PN HN9 HB9 z0 z1 z2 z3 z4 z5 z6 z7 z8 zf
                go_roundw
                case rel => exact ⟨i + 1, ρ', a9, n', c9, _, by omega, by go_num, HN⟩
                case measure => simp [intOf]; omega
            · have hik : i = k := by omega
              subst hik
              have hlti : ¬ (i : Int) < (i : Int) := by omega
              obtain ⟨hhd, hbd⟩ := HQ.out.last htk HHK.out HBK.out
              have hgot := HF3.out.got t htk
              have hpln := hgot.bat.len
              have hok := hgot.bat.ok
              have hlb := pcodeF_long hgot.code
              have hnbt : (bs t).length ≤ nb := by
                have := (fd_all_ge (bsOf i bs) []).2 (bs t) (by unfold bsOf; exact List.mem_map.2 ⟨t, List.mem_range.2 htk, rfl⟩)
                rw [HLB.out, HNB.out] at this; exact this
              have hbt : (bs t).length = pn t - 12 := by rw [hgot.body, List.length_drop, hpln]
              have hRl := HQ.out.bat.len
              have hle := HQ.out.le
              have hfp := fd_packet ρ (hhd.trans hgot.head) (fun j => by rw [hbd j, hgot.body]) (by omega) hok (pn t) hpln hgot.code (pcodeF_v' hgot.code)
              have HGT := Lib.hid hgot
              have HFP := Lib.hid hfp
              have HHD2 := Lib.hid hhd
              have HGAP : Hid (Str.gap R (bs t) = -1) := Lib.hid (Str.gap_none hbd)
              obtain ⟨gp, hgp1, hgp2, hgp3⟩ := HF3.out.pat htk
              subst hgp1
              have HWL : Hid (∀ W, Below wr.heap.size wr W → Below w3.heap.size w3 W) := Lib.hid fun W hW => HBW.out.trans (hW.mono HBW.out.size)
              have HWW : Hid (∀ W, Below wr.heap.size wr W → Below w.heap.size w W) := Lib.hid fun W hW => (HF3.out.below (HWL.out W hW)).low
              have HPC : Hid (∀ W, Below wr.heap.size wr W → W.cell? ⟨gp, t, none⟩ = some (.slice (pa t) (pn t) (pc t))) := Lib.hid fun W hW => ((HWL.out W hW).cell (p := ⟨gp, t, none⟩) hgp2).trans hgp3
              have hsq : ∀ W, Below wr.heap.size wr W → Calls Try.prog 25 #[.slice (pa t) (pn t) (pc t)] W (ValB (.tuple #[.int .u16 (Num (((ls t).drop 2).take 2)), .bool true]) W) := fun W hW => by
                have := seq5_any (pa t) (pn t) (pc t) (ls t) W (HGT.out.bat.below (HWW.out W hW)) HGT.out.cap
                unfold out_Seq at this
                rw [if_pos HGT.out.code] at this
                exact this
              have hsr : ∀ W, Below wr.heap.size wr W → Calls Try.prog 26 #[.slice (pa t) (pn t) (pc t)] W (ValB (.tuple #[.int .u32 (Num (((ls t).drop 8).take 4)), .bool true]) W) := fun W hW => by
                have := ssrc5_any (pa t) (pn t) (pc t) (ls t) W (HGT.out.bat.below (HWW.out W hW)) HGT.out.cap
                unfold out_SSRC at this
                rw [if_pos HGT.out.code] at this
                exact this
              have hs2 := num_lt (hok.drop 2) 2 (by rw [List.length_drop]; omega) 65536 rfl
              have hs4 := num_lt (hok.drop 8) 4 (by rw [List.length_drop]; omega) 4294967296 rfl
              have hpk : ∀ W, Below wr.heap.size wr W → _ := fun W hW => packet_any (ρ 0) (ρ 1) (ρ 2) (ρ 3) (ρ 4) (ρ 5) (ρ 6) (ρ 7) ar nr cr R (Num (((ls t).drop 2).take 2)) (Num (((ls t).drop 8).take 4)) W (HQ.out.bat.below hW) HQ.out.cap (by omega) (HQ.out.by8 0) (HQ.out.by8 1) (HQ.out.by8 2) (HQ.out.by8 3) (HQ.out.by8 4) (HQ.out.by8 5) (HQ.out.by8 6) (HQ.out.by8 7) hs2 hs4
              rw [HFP.out.1, HFP.out.2] at hpk
              generalize Num (((ls t).drop 2).take 2) = sq at *
              generalize Num (((ls t).drop 8).take 4) = ss at *
              have HSQ := Lib.hid hsq; have HSR := Lib.hid hsr; have HPK := Lib.hid hpk
              have htz : (t : Int) < (i : Int) := by omega
              have hpc := HPC.out wr (Below.refl _ wr)
              clear hhd hbd hgot hpln hok hlb hnbt hbt hRl hle hfp hgp2 hgp3 hsq hsr hpk hs2 hs4
              go_wp2_with fail
              refine (HSQ.out _ (Below.refl _ wr)).mono ?_
              rintro e w10 ⟨rfl, hB10⟩
              have HB10 := Lib.hid hB10
              have hpc := HPC.out w10 hB10
              clear hB10 HSQ
              go_wp2_with fail
              refine (HSR.out _ HB10.out).mono ?_
              rintro e w11 ⟨rfl, hB11⟩
              have HB11 := Lib.hid (HB10.out.trans (hB11.mono HB10.out.size))
              clear hB11 HSR HB10
              obtain ⟨x0, x1, x2, x3, x4, x5, x6, x7, x8⟩ := (HQ.out.below HB11.out).box.cs
              go_wp2_with fail
              refine (HPK.out _ HB11.out).mono ?_
              rintro e w12 ⟨a12, n12, c12, rfl, hO12, hB12⟩
              have HB12 := Lib.hid (HB11.out.trans (hB12.mono HB11.out.size))
              have HO12 := Lib.hid hO12.bat
              clear hB12 hO12 HPK HB11 x0 x1 x2 x3 x4 x5 x6 x7 x8
              obtain ⟨x0, x1, x2, x3, x4, x5, x6, x7, x8⟩ := (HQ.out.below HB12.out).box.cs
              have b0 := HBX.out _ (HWL.out _ HB12.out)
              have hpc := HPC.out _ HB12.out
              obtain rfl := HGX1.out (by omega)
              obtain ⟨c0, c1, c2, c3, c4, c5, c6, c7, c8⟩ := HGX3.out w12 (HWL.out _ HB12.out) t htk
              simp only [Nat.zero_add] at c0 c1 c2 c3 c4 c5 c6 c7 c8
              clear x0 x1 x2 x3 x4 x5 x6 x7 x8 b0 hpc c0 c1 c2 c3 c4 c5 c6 c7 c8
              obtain ⟨T, hT⟩ : ∃ T : World → Prop, (fun W => Below w12.heap.size w12 W) = T := ⟨_, rfl⟩
              have HT : Hid (∀ W, T W ↔ Below w12.heap.size w12 W) := Lib.hid fun W => by rw [← hT]
              have TB : Hid (∀ W W', T W → Below W.heap.size W W' → T W') := Lib.hid fun W W' hW hb => by
                rw [HT.out] at hW ⊢
                exact hW.trans (hb.mono hW.size)
              have TW : Hid (∀ W, T W → Below wr.heap.size wr W) := Lib.hid fun W hW => HB12.out.trans (((HT.out W).1 hW).mono HB12.out.size)
              have TM : Hid (∀ W, T W → (W.cell? ⟨PR, 0, none⟩ = some (.int .u8 (ρ 0)) ∧ W.cell? ⟨PR, 1, none⟩ = some (.int .u8 (ρ 1)) ∧ W.cell? ⟨PR, 2, none⟩ = some (.int .u8 (ρ 2)) ∧ W.cell? ⟨PR, 3, none⟩ = some (.int .u8 (ρ 3)) ∧ W.cell? ⟨PR, 4, none⟩ = some (.int .u8 (ρ 4)) ∧ W.cell? ⟨PR, 5, none⟩ = some (.int .u8 (ρ 5)) ∧ W.cell? ⟨PR, 6, none⟩ = some (.int .u8 (ρ 6)) ∧ W.cell? ⟨PR, 7, none⟩ = some (.int .u8 (ρ 7)) ∧ W.cell? ⟨PR, 8, none⟩ = some (.slice ar nr cr) ∧ W.cell? ⟨X, 0, none⟩ = some (.slice (some ⟨gx, 0, none⟩) i cx) ∧ W.cell? ⟨gx, t * 9, none⟩ = some (.int .u8 (h t 0)) ∧ W.cell? ⟨gx, t * 9 + 1, none⟩ = some (.int .u8 (h t 1)) ∧ W.cell? ⟨gx, t * 9 + 2, none⟩ = some (.int .u8 (h t 2)) ∧ W.cell? ⟨gx, t * 9 + 3, none⟩ = some (.int .u8 (h t 3)) ∧ W.cell? ⟨gx, t * 9 + 4, none⟩ = some (.int .u8 (h t 4)) ∧ W.cell? ⟨gx, t * 9 + 5, none⟩ = some (.int .u8 (h t 5)) ∧ W.cell? ⟨gx, t * 9 + 6, none⟩ = some (.int .u8 (h t 6)) ∧ W.cell? ⟨gx, t * 9 + 7, none⟩ = some (.int .u8 (h t 7)) ∧ W.cell? ⟨gx, t * 9 + 8, none⟩ = some (.slice (A' t) (bs t).length (C' t)) ∧ W.cell? ⟨gp, t, none⟩ = some (.slice (pa t) (pn t) (pc t))) ∧ T W) := Lib.hid fun W hW => by
                have hb := TW.out W hW
                obtain ⟨x0, x1, x2, x3, x4, x5, x6, x7, x8⟩ := (HQ.out.below hb).box.cs
                obtain ⟨c0, c1, c2, c3, c4, c5, c6, c7, c8⟩ := HGX3.out W (HWL.out _ hb) t htk
                simp only [Nat.zero_add] at c0 c1 c2 c3 c4 c5 c6 c7 c8
                exact ⟨⟨x0, x1, x2, x3, x4, x5, x6, x7, x8, HBX.out _ (HWL.out _ hb), c0, c1, c2, c3, c4, c5, c6, c7, c8, HPC.out _ hb⟩, hW⟩
              have DR : Hid (∀ W : World, (W.cell? ⟨PR, 0, none⟩ = some (.int .u8 (ρ 0)) ∧ W.cell? ⟨PR, 1, none⟩ = some (.int .u8 (ρ 1)) ∧ W.cell? ⟨PR, 2, none⟩ = some (.int .u8 (ρ 2)) ∧ W.cell? ⟨PR, 3, none⟩ = some (.int .u8 (ρ 3)) ∧ W.cell? ⟨PR, 4, none⟩ = some (.int .u8 (ρ 4)) ∧ W.cell? ⟨PR, 5, none⟩ = some (.int .u8 (ρ 5)) ∧ W.cell? ⟨PR, 6, none⟩ = some (.int .u8 (ρ 6)) ∧ W.cell? ⟨PR, 7, none⟩ = some (.int .u8 (ρ 7)) ∧ W.cell? ⟨PR, 8, none⟩ = some (.slice ar nr cr) ∧ W.cell? ⟨X, 0, none⟩ = some (.slice (some ⟨gx, 0, none⟩) i cx) ∧ W.cell? ⟨gx, t * 9, none⟩ = some (.int .u8 (h t 0)) ∧ W.cell? ⟨gx, t * 9 + 1, none⟩ = some (.int .u8 (h t 1)) ∧ W.cell? ⟨gx, t * 9 + 2, none⟩ = some (.int .u8 (h t 2)) ∧ W.cell? ⟨gx, t * 9 + 3, none⟩ = some (.int .u8 (h t 3)) ∧ W.cell? ⟨gx, t * 9 + 4, none⟩ = some (.int .u8 (h t 4)) ∧ W.cell? ⟨gx, t * 9 + 5, none⟩ = some (.int .u8 (h t 5)) ∧ W.cell? ⟨gx, t * 9 + 6, none⟩ = some (.int .u8 (h t 6)) ∧ W.cell? ⟨gx, t * 9 + 7, none⟩ = some (.int .u8 (h t 7)) ∧ W.cell? ⟨gx, t * 9 + 8, none⟩ = some (.slice (A' t) (bs t).length (C' t)) ∧ W.cell? ⟨gp, t, none⟩ = some (.slice (pa t) (pn t) (pc t))) ∧ T W → (W.drew.cell? ⟨PR, 0, none⟩ = some (.int .u8 (ρ 0)) ∧ W.drew.cell? ⟨PR, 1, none⟩ = some (.int .u8 (ρ 1)) ∧ W.drew.cell? ⟨PR, 2, none⟩ = some (.int .u8 (ρ 2)) ∧ W.drew.cell? ⟨PR, 3, none⟩ = some (.int .u8 (ρ 3)) ∧ W.drew.cell? ⟨PR, 4, none⟩ = some (.int .u8 (ρ 4)) ∧ W.drew.cell? ⟨PR, 5, none⟩ = some (.int .u8 (ρ 5)) ∧ W.drew.cell? ⟨PR, 6, none⟩ = some (.int .u8 (ρ 6)) ∧ W.drew.cell? ⟨PR, 7, none⟩ = some (.int .u8 (ρ 7)) ∧ W.drew.cell? ⟨PR, 8, none⟩ = some (.slice ar nr cr) ∧ W.drew.cell? ⟨X, 0, none⟩ = some (.slice (some ⟨gx, 0, none⟩) i cx) ∧ W.drew.cell? ⟨gx, t * 9, none⟩ = some (.int .u8 (h t 0)) ∧ W.drew.cell? ⟨gx, t * 9 + 1, none⟩ = some (.int .u8 (h t 1)) ∧ W.drew.cell? ⟨gx, t * 9 + 2, none⟩ = some (.int .u8 (h t 2)) ∧ W.drew.cell? ⟨gx, t * 9 + 3, none⟩ = some (.int .u8 (h t 3)) ∧ W.drew.cell? ⟨gx, t * 9 + 4, none⟩ = some (.int .u8 (h t 4)) ∧ W.drew.cell? ⟨gx, t * 9 + 5, none⟩ = some (.int .u8 (h t 5)) ∧ W.drew.cell? ⟨gx, t * 9 + 6, none⟩ = some (.int .u8 (h t 6)) ∧ W.drew.cell? ⟨gx, t * 9 + 7, none⟩ = some (.int .u8 (h t 7)) ∧ W.drew.cell? ⟨gx, t * 9 + 8, none⟩ = some (.slice (A' t) (bs t).length (C' t)) ∧ W.drew.cell? ⟨gp, t, none⟩ = some (.slice (pa t) (pn t) (pc t))) ∧ T W.drew) := Lib.hid fun W hh => TM.out _ (TB.out _ _ hh.2 (Below.refl _ W).drew)
              have HSM : Hid (∀ W, T W → Calls Try.prog 19 #[.agg #[.int .u8 (ρ 0), .int .u8 (ρ 1), .int .u8 (ρ 2), .int .u8 (ρ 3), .int .u8 (ρ 4), .int .u8 (ρ 5), .int .u8 (ρ 6), .int .u8 (ρ 7), .slice ar nr cr], .agg #[.int .u8 (h t 0), .int .u8 (h t 1), .int .u8 (h t 2), .int .u8 (h t 3), .int .u8 (h t 4), .int .u8 (h t 5), .int .u8 (h t 6), .int .u8 (h t 7), .slice (A' t) (bs t).length (C' t)]] W (ValB (.bool true) W)) := Lib.hid fun W hW => by
                have hb := TW.out W hW
                have := isame_any (ρ 0) (ρ 1) (ρ 2) (ρ 3) (ρ 4) (ρ 5) (ρ 6) (ρ 7) (h t 0) (h t 1) (h t 2) (h t 3) (h t 4) (h t 5) (h t 6) (h t 7) ar (A' t) nr (bs t).length cr (C' t) R (bs t) W (HQ.out.bat.below hb) ((HF3.out.xs.own t htk).bat.below (HWL.out _ hb))
                rw [decide_eq_true HHD2.out, HGAP.out] at this
                exact this
              have HSB : Hid (∀ W, T W → Calls Try.prog 12 #[.slice a12 n12 c12, .slice (pa t) (pn t) (pc t)] W (fun e w' => e = .returned (.bool true) ∧ Below W.heap.size W w')) := Lib.hid fun W hW => by
                have hb := TW.out W hW
                refine (same_any a12 (pa t) n12 (pn t) c12 (pc t) (ls t) (ls t) W (HO12.out.below ((HT.out W).1 hW)) (HGT.out.bat.below (HWW.out W hb))).mono ?_
                rintro e w' ⟨rfl, kd, rfl⟩
                exact ⟨by rw [decide_eq_true (rfl : ls t = ls t)], below_drewN W _ kd⟩
              have hcur := TM.out w12 (by rw [HT.out]; exact Below.refl _ _)
              clear hT
              go_wp2_with fail
              go_region_held3 (fun W : World => (W.cell? ⟨PR, 0, none⟩ = some (.int .u8 (ρ 0)) ∧ W.cell? ⟨PR, 1, none⟩ = some (.int .u8 (ρ 1)) ∧ W.cell? ⟨PR, 2, none⟩ = some (.int .u8 (ρ 2)) ∧ W.cell? ⟨PR, 3, none⟩ = some (.int .u8 (ρ 3)) ∧ W.cell? ⟨PR, 4, none⟩ = some (.int .u8 (ρ 4)) ∧ W.cell? ⟨PR, 5, none⟩ = some (.int .u8 (ρ 5)) ∧ W.cell? ⟨PR, 6, none⟩ = some (.int .u8 (ρ 6)) ∧ W.cell? ⟨PR, 7, none⟩ = some (.int .u8 (ρ 7)) ∧ W.cell? ⟨PR, 8, none⟩ = some (.slice ar nr cr) ∧ W.cell? ⟨X, 0, none⟩ = some (.slice (some ⟨gx, 0, none⟩) i cx) ∧ W.cell? ⟨gx, t * 9, none⟩ = some (.int .u8 (h t 0)) ∧ W.cell? ⟨gx, t * 9 + 1, none⟩ = some (.int .u8 (h t 1)) ∧ W.cell? ⟨gx, t * 9 + 2, none⟩ = some (.int .u8 (h t 2)) ∧ W.cell? ⟨gx, t * 9 + 3, none⟩ = some (.int .u8 (h t 3)) ∧ W.cell? ⟨gx, t * 9 + 4, none⟩ = some (.int .u8 (h t 4)) ∧ W.cell? ⟨gx, t * 9 + 5, none⟩ = some (.int .u8 (h t 5)) ∧ W.cell? ⟨gx, t * 9 + 6, none⟩ = some (.int .u8 (h t 6)) ∧ W.cell? ⟨gx, t * 9 + 7, none⟩ = some (.int .u8 (h t 7)) ∧ W.cell? ⟨gx, t * 9 + 8, none⟩ = some (.slice (A' t) (bs t).length (C' t)) ∧ W.cell? ⟨gp, t, none⟩ = some (.slice (pa t) (pn t) (pc t))) ∧ T W) (first | with_reducible assumption | with_reducible exact DR.out _ (by with_reducible assumption))
                (first
                  | (go_at_call 19
                     (with_reducible refine (HSM.out _ (And.right (by with_reducible assumption))).mono ?_)
                     rintro e w13 ⟨rfl, hB13⟩
                     have hS13 := TM.out _ (TB.out _ _ (And.right (by with_reducible assumption)) hB13))
                  | (go_at_call 12
                     (with_reducible refine (HSB.out _ (And.right (by with_reducible assumption))).mono ?_)
                     rintro e w14 ⟨rfl, hB14⟩
                     have hS14 := TM.out _ (TB.out _ _ (And.right (by with_reducible assumption)) hB14)))
              have HFIN := Lib.hid (HWW.out _ (TW.out _ hS14.2))
              clear hS13 hS14 hcur hB13 hB14
              go_wp2
              go_ret
              exact ⟨rfl, HFIN.out⟩
end Go.Proofs.Ytppgjodehphaeaa

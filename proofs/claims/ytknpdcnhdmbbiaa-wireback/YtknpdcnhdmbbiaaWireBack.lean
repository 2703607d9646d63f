
/-
  WireBack's walk.
-/
import Derived.Test.YtknpdcnhdmbbiaaWireBack0
namespace Go.Proofs.Ytknpdcnhdmbbiaa
open Go.RowKit Go.Shelf
set_option linter.unusedVariables false
/-- The size of number i, as the law picks it; the number that is written. -/
def szOf (d : Int) : Int := if d % 4 = 0 then 1 else if d % 4 = 1 then 2 else if d % 4 = 2 then 4 else 8
def shOf (k x : Int) : Int := if k = 1 then x / 72057594037927936 else if k = 2 then x / 281474976710656 else if k = 4 then x / 4294967296 else x
def kOf (z : List Int) (i : Nat) : Int := szOf ((i : Int) + z.getD i 0)
def xOf (z : List Int) (i : Nat) : Int := shOf (kOf z i) (z.getD i 0)
theorem kd_kOf (z : List Int) (i : Nat) : Kd (kOf z i) := by
  unfold kOf szOf Kd
  split
  · exact .inl rfl
  · split
    · exact .inr (.inl rfl)
    · split
      · exact .inr (.inr (.inl rfl))
      · exact .inr (.inr (.inr rfl))
theorem xOf_bd (z : List Int) (i : Nat) (h : 0 ≤ z.getD i 0 ∧ z.getD i 0 < 18446744073709551616) : 0 ≤ xOf z i ∧ xOf z i < 256 ^ (kOf z i).toNat := by
  unfold xOf
  generalize z.getD i 0 = x at h ⊢
  unfold shOf
  rcases kd_kOf z i with e | e | e | e <;> rw [e] <;> simp <;> omega
theorem Wr_len8 (ks xs : Nat → Int) (bs : Nat → List Int) (h : ∀ i, Kd (ks i)) : ∀ i, (Wr ks xs bs i).length ≤ 8 * i
  | 0 => by simp [Wr]
  | i + 1 => by
    have := Wr_len8 ks xs bs h i
    simp only [Wr, List.length_append]
    rw [wr1_kd_len (h i)]
    rcases h i with e | e | e | e <;> rw [e] <;> simp <;> omega
theorem Wr_pos (ks xs : Nat → Int) (bs : Nat → List Int) (h : ∀ i, Kd (ks i)) (i : Nat) (hi : 0 < i) : 0 < (Wr ks xs bs i).length := by
  obtain ⟨r, hr⟩ := Wr_split ks xs bs i 0 hi
  rw [hr, List.length_append, List.length_append, wr1_kd_len (h 0)]
  have : 0 < (ks 0).toNat := by rcases h 0 with e | e | e | e <;> rw [e] <;> decide
  omega
def BkS (w : World) (a3 : Option Addr) (i : Nat) (ks : Nat → Int) (a4 : Option Addr) (xs : Nat → Int) (ab : Option Addr) (N : Nat) (l : List Int) (W : World) : Prop :=
  StAt W a3 i ks (fun _ => 0) ∧ GtAt W a4 i xs (fun _ => none) (fun _ => 0) (fun _ => 0) (fun _ => []) ∧ BAt W ab N l ∧ Below w.heap.size w W
theorem BkS.below {w : World} {a3 : Option Addr} {i : Nat} {ks : Nat → Int} {a4 : Option Addr} {xs : Nat → Int} {ab : Option Addr} {N : Nat} {l : List Int} {W W' : World} (h : BkS w a3 i ks a4 xs ab N l W) (hb : Below W.heap.size W W') : BkS w a3 i ks a4 xs ab N l W' :=
  ⟨h.1.below hb, h.2.1.below hb, h.2.2.1.below hb, h.2.2.2.trans (hb.mono h.2.2.2.size)⟩
set_option maxHeartbeats 4000000 in
set_option maxRecDepth 100000 in
theorem back_out (a : Option Addr) (n c : Nat) (cut : Int) (w : World) (h : 50 < n ∨ n = 0) :
    Calls Try.prog 4 #[.slice a n c, .int .i64 cut] w (TrueBelow w) := by
  have hcase : (50 : Int) < (n : Int) ∨ (¬ (50 : Int) < (n : Int) ∧ ((n : Int) == 0) = true) := by
    by_cases h1 : (50 : Int) < (n : Int)
    · exact .inl h1
    · exact .inr ⟨h1, by rw [beq_iff_eq]; omega⟩
  clear h
  rcases hcase with h1 | ⟨h1, h2⟩
  all_goals
    go_enter Try.func4, Try.ntmps4
    go_wp2_with fail
    refine (walive_any _).mono ?_
    rintro e w1 ⟨rfl, hB⟩
    go_wp2
    go_ret
    exact ⟨rfl, hB⟩
theorem and3u (n : Int) : bits .and .u64 n 3 = n % 4 := by
  have hmn : (BitVec.ofInt 64 (3 : Int)).toNat = 2 ^ 2 - 1 := by decide
  have key : (BitVec.ofInt 64 n &&& BitVec.ofInt 64 (3 : Int)).toNat = (n % ((2 ^ 64 : Nat) : Int)).toNat % 2 ^ 2 := by
    rw [BitVec.toNat_and, BitVec.toNat_ofInt, hmn, Nat.and_two_pow_sub_one_eq_mod]
  show IntKind.u64.wrap ((BitVec.ofInt 64 n &&& BitVec.ofInt 64 (3 : Int)).toNat : Nat) = _
  have : ∀ n : Int, IntKind.u64.wrap n = n % 18446744073709551616 := fun n => by simp [IntKind.wrap, IntKind.bits, IntKind.signed]
  rw [key, this]; omega
theorem BkSt.alloc {w : World} {ks xs : Nat → Int} {i : Nat} {a3 : Option Addr} {c3 : Nat} {a4 : Option Addr} {c4 : Nat} {W : World} (h : BkSt w ks xs i a3 c3 a4 c4 W) (cs : Array Value) (t : TypeId) : BkSt w ks xs i a3 c3 a4 c4 (W.alloc (.cells cs t)) :=
  ⟨h.st.alloc _, h.gt.alloc _, h.sep, h.low.alloc h.low.size _⟩
set_option maxHeartbeats 4000000 in
set_option maxRecDepth 100000 in
theorem back_any (a : Option Addr) (n c : Nat) (z : List Int) (cut : Int) (w : World) (hz : WdAt w a n z) (hn : n ≤ 50) (hpos : 0 < n) :
    Calls Try.prog 4 #[.slice a n c, .int .i64 cut] w (TrueBelow w) := by
  have h1 : ¬ (50 : Int) < (n : Int) := by omega
  have h3 : ((n : Int) == 0) = false := by rw [beq_eq_false_iff_ne]; omega
  have HZ := Lib.hid hz; clear hz
  go_enter Try.func4, Try.ntmps4
  go_wp2_with fail
  refine (walive_any _).mono ?_
  rintro e w1 ⟨rfl, hB⟩
  have HZ1 := Lib.hid (HZ.out.below hB); have HB1 := Lib.hid hB; clear hB
  go_wp2_with fail
  go_loopw [5, 6, 31] (fun s5 s6 iv wr => ∃ (i : Nat) (a3 : Option Addr) (c3 : Nat) (a4 : Option Addr) (c4 : Nat), i ≤ n ∧ s5 = .slice a3 i c3 ∧ s6 = .slice a4 i c4 ∧ iv = .int .i64 i ∧ Hid (BkSt w1 (kOf z) (xOf z) i a3 c3 a4 c4 wr)) (fun _ _ iv _ => n - (intOf iv).toNat)
  case atStart => exact ⟨0, _, _, _, _, Nat.zero_le _, rfl, rfl, rfl, Lib.hid (BkSt.start w1 _ _)⟩
  case round =>
    obtain ⟨i, a3, c3, a4, c4, hi, rfl, rfl, rfl, HQ⟩ := hrel
    by_cases hlt : i < n
    · have hltz : (i : Int) < (n : Int) := by omega
      obtain ⟨b, o, hr⟩ := HZ1.out
      obtain ⟨rfl, hbl, g0, hx0, hx1⟩ := hr i hlt
      clear hr
      have g0 : wr.cell? ⟨b, o + i, none⟩ = some (.int .u64 (z.getD i 0)) := (HQ.out.low.cell (p := ⟨b, o + i, none⟩) hbl).trans g0
      obtain ⟨a5, c5, W1, hr1, a6, c6, W2, hr2, hN⟩ := (HQ.out.alloc #[.int .i64 1, .int .i64 2, .int .i64 4, .int .i64 8] 3).next 23 29 (by omega)
      have HN := Lib.hid hN; clear hN
      have hsz : (wr.alloc (.cells #[.int .i64 1, .int .i64 2, .int .i64 4, .int .i64 8] 3)).heap.size = wr.heap.size + 1 := by simp
      rw [hsz] at hr1
      clear hsz
      have HR1 := Lib.hid hr1; have HR2 := Lib.hid hr2; clear hr1 hr2
      have ek : kOf z i = szOf ((i : Int) + z.getD i 0) := rfl
      have ex : xOf z i = shOf (kOf z i) (z.getD i 0) := rfl
      have HA := Lib.hid and3u
      generalize kOf z i = k at ek ex HR1
      generalize xOf z i = x at ex HR2
      generalize z.getD i 0 = y at g0 hx0 hx1 ek ex
      have hcase : ((i : Int) + y) % 4 = 0 ∨ ((i : Int) + y) % 4 = 1 ∨ ((i : Int) + y) % 4 = 2 ∨ ((i : Int) + y) % 4 = 3 := by omega
      have hu : ∀ z : Int, IntKind.u64.wrap z = z % 18446744073709551616 := fun z => by simp [IntKind.wrap, IntKind.bits, IntKind.signed]
      have HU := Lib.hid hu; clear hu
      rcases hcase with hd | hd | hd | hd
      · obtain rfl : k = 1 := by rw [ek]; unfold szOf; rw [if_pos hd]
        have ex2 : x = y / 72057594037927936 := ex
        rw [ex2] at HR2
        clear ex ex2
        have eb : bits .and .u64 (IntKind.u64.wrap (↑i + y)) 3 = 0 := by rw [HA.out, HU.out]; omega
        clear ek hd
        go_wp2_with (first
          | (at_builtin; refine Lib.wpList_append_run _ rfl (.tmp 44) (.tmp 47) 23 23 rfl (.slice a3 i c3) _ (by rfl) (by rfl) _ _ HR1.out ?_)
          | (at_builtin; refine Lib.wpList_append_run _ rfl (.tmp 49) (.tmp 56) 29 29 rfl (.slice a4 i c4) _ (by rfl) (by rfl) _ _ HR2.out ?_))
        go_roundw
        case rel => exact ⟨i + 1, a5, c5, a6, c6, by omega, rfl, rfl, by go_num, HN⟩
        case measure => simp [intOf]; omega
      · obtain rfl : k = 2 := by rw [ek]; unfold szOf; rw [if_neg (by omega), if_pos hd]
        have ex2 : x = y / 281474976710656 := ex
        rw [ex2] at HR2
        clear ex ex2
        have eb : bits .and .u64 (IntKind.u64.wrap (↑i + y)) 3 = 1 := by rw [HA.out, HU.out]; omega
        clear ek hd
        go_wp2_with (first
          | (at_builtin; refine Lib.wpList_append_run _ rfl (.tmp 44) (.tmp 47) 23 23 rfl (.slice a3 i c3) _ (by rfl) (by rfl) _ _ HR1.out ?_)
          | (at_builtin; refine Lib.wpList_append_run _ rfl (.tmp 49) (.tmp 56) 29 29 rfl (.slice a4 i c4) _ (by rfl) (by rfl) _ _ HR2.out ?_))
        go_roundw
        case rel => exact ⟨i + 1, a5, c5, a6, c6, by omega, rfl, rfl, by go_num, HN⟩
        case measure => simp [intOf]; omega
      · obtain rfl : k = 4 := by rw [ek]; unfold szOf; rw [if_neg (by omega), if_neg (by omega), if_pos hd]
        have ex2 : x = y / 4294967296 := ex
        rw [ex2] at HR2
        clear ex ex2
        have eb : bits .and .u64 (IntKind.u64.wrap (↑i + y)) 3 = 2 := by rw [HA.out, HU.out]; omega
        clear ek hd
        go_wp2_with (first
          | (at_builtin; refine Lib.wpList_append_run _ rfl (.tmp 44) (.tmp 47) 23 23 rfl (.slice a3 i c3) _ (by rfl) (by rfl) _ _ HR1.out ?_)
          | (at_builtin; refine Lib.wpList_append_run _ rfl (.tmp 49) (.tmp 56) 29 29 rfl (.slice a4 i c4) _ (by rfl) (by rfl) _ _ HR2.out ?_))
        go_roundw
        case rel => exact ⟨i + 1, a5, c5, a6, c6, by omega, rfl, rfl, by go_num, HN⟩
        case measure => simp [intOf]; omega
      · obtain rfl : k = 8 := by rw [ek]; unfold szOf; rw [if_neg (by omega), if_neg (by omega), if_neg (by omega)]
        have ex2 : x = y := ex
        rw [ex2] at HR2
        clear ex ex2
        have eb : bits .and .u64 (IntKind.u64.wrap (↑i + y)) 3 = 3 := by rw [HA.out, HU.out]; omega
        clear ek hd
        go_wp2_with (first
          | (at_builtin; refine Lib.wpList_append_run _ rfl (.tmp 44) (.tmp 47) 23 23 rfl (.slice a3 i c3) _ (by rfl) (by rfl) _ _ HR1.out ?_)
          | (at_builtin; refine Lib.wpList_append_run _ rfl (.tmp 49) (.tmp 56) 29 29 rfl (.slice a4 i c4) _ (by rfl) (by rfl) _ _ HR2.out ?_))
        go_roundw
        case rel => exact ⟨i + 1, a5, c5, a6, c6, by omega, rfl, rfl, by go_num, HN⟩
        case measure => simp [intOf]; omega
    · have hltz : ¬ (i : Int) < (n : Int) := by omega
      obtain rfl : i = n := by omega
      have hxb : ∀ j, j < i → 0 ≤ xOf z j ∧ xOf z j < 256 ^ (kOf z j).toNat := fun j hj => xOf_bd z j (by
        obtain ⟨b, o, hr⟩ := HZ1.out
        exact (hr j hj).2.2.2)
      have hxu : ∀ j, j < i → 0 ≤ xOf z j ∧ xOf z j < 18446744073709551616 := fun j hj => ⟨(hxb j hj).1, Int.lt_of_lt_of_le (hxb j hj).2 (by rcases kd_kOf z j with e | e | e | e <;> rw [e] <;> decide)⟩
      have HS := Lib.hid HQ.out.stat
      have HG := Lib.hid (HQ.out.gtat hxu)
      have HB := Lib.hid (show Below w.heap.size w wr from HB1.out.trans (HQ.out.low.mono HB1.out.size))
      clear HQ HB1 HZ1
      have hkd := kd_kOf z
      generalize kOf z = ks at hxb hkd HS
      generalize xOf z = xs at hxb hxu HG
      obtain ⟨l, hl⟩ : ∃ l, Wr ks xs (fun _ => []) i = l := ⟨_, rfl⟩
      have hlen : l.length ≤ 8 * i := by rw [← hl]; exact Wr_len8 ks xs _ hkd i
      have hl0 : 0 < l.length := by rw [← hl]; exact Wr_pos ks xs _ hkd i hpos
      have WRITE := Lib.hid (write_any a3 i c3 ks (fun _ => 0) a4 i c4 xs _ _ _ _ wr HS.out HG.out (by omega) (by omega) (fun _ _ _ => Nat.zero_le _) i (Nat.min_self i))
      rw [hl] at WRITE
      obtain ⟨N, hN⟩ : ∃ N, l.length = N := ⟨_, rfl⟩
      have hNz : (0 : Int) < (N : Int) := by omega
      go_wp2_with fail
      refine (WRITE.out).mono ?_
      rintro e w2 ⟨s, rfl, hs2, a2, c2, hW2, hB2⟩
      rw [hN] at hW2
      have HS2 := Lib.hid (HS.out.below hB2); have HG2 := Lib.hid (HG.out.below hB2); have HB2 := Lib.hid (HB.out.trans (hB2.mono HB.out.size)); have HW2 := Lib.hid hW2
      clear hW2 hB2 HS HG HB WRITE
      go_wp2_with fail
      refine (wdone_any s wr.heap.size a2 N c2 l w2 HW2.out (by omega)).mono ?_
      rintro e w3 ⟨ab, cb, rfl, hO3, hB3⟩
      have HS3 := Lib.hid (HS2.out.below hB3); have HG3 := Lib.hid (HG2.out.below hB3); have HB3 := Lib.hid (HB2.out.trans (hB3.mono HB2.out.size)); have HO3 := Lib.hid hO3.bat
      have hcb : N ≤ cb := by
        rcases hO3.row.2 with ⟨e, e2⟩ | ⟨g, cap, cur, e, _, _, h3, _⟩
        · omega
        · simp at e; omega
      have HST := Lib.hid (show BkS w a3 i ks a4 xs ab N l w3 from ⟨HS3.out, HG3.out, HO3.out, HB3.out⟩)
      clear hO3 hB3 HS2 HG2 HB2 HW2 HS3 HG3 HB3 HO3
      have hok : ∀ m, N ≤ m → ∀ j, j < i → noAt ks (fun _ => 0) m j = 0 := fun m hm j hj => wr_no ks _ xs (fun _ => []) m i hkd (by rw [hl, hN]; exact hm) j hj
      have hpp : ∀ m, pos ks (fun _ => 0) m i = N := fun m => by rw [pos_kd ks _ xs (fun _ => []) m hkd i, hl, hN]
      have READ1 : Hid (∀ S W, BkS w a3 i ks a4 xs ab N l W → W.cell? ⟨S, 0, none⟩ = some (.slice a3 i c3) → Calls Try.prog 17 #[.slice ab N cb, .func (.func 52) #[] #[.pointer (some ⟨S, 0, none⟩)]] W (fun e w' => ∃ ao co A L C, e = .returned (.tuple #[.slice ao i co, .int .i64 0]) ∧ GtAt w' ao i xs A L C (fun _ => []) ∧ Below W.heap.size W w')) := Lib.hid fun S W h h4 =>
        (gread_any ab N cb l S a3 i c3 ks _ i W h.2.2.1 hcb h.1 h4 (by omega) (by omega) (Nat.le_refl _) (hok N (Nat.le_refl _)) (fun h => by omega)).mono fun e w' hE => by
          obtain ⟨ao, co, rfl, hG, hB⟩ := hE.1 rfl (hpp N)
          have e1 : ∀ j, j < i → gotX ks (fun _ => 0) l j = xs j := fun j hj => by rw [← hl]; exact wr_gotX ks _ xs _ i hkd hxb j hj
          obtain ⟨A, L, C, hT⟩ := hG.gtat (fun j hj => by rw [e1 j hj]; exact hxu j hj)
          exact ⟨ao, co, A, L, C, rfl, hT.congr e1 (fun j _ => wr_gotB ks _ xs (fun _ => []) l hkd j), hB⟩
      have e1 := and1023 cut
      obtain ⟨p, hp⟩ : ∃ p : Nat, cut % 1024 = p := ⟨(cut % 1024).toNat, by omega⟩
      rw [hp] at e1
      have e3 : ((p : Int)).tmod (N : Int) = ((p % N : Nat) : Int) := by rw [Int.tmod_eq_emod_of_nonneg (by omega)]; simp
      have hr1 : p % N < N := Nat.mod_lt _ (by omega)
      clear hp
      generalize p % N = t at e3 hr1
      obtain ⟨F, hF, hokF, hbadF⟩ := first_no ks (fun _ => 0) t i
      obtain ⟨hFi, hF20⟩ := wr_short ks (fun _ => 0) xs (fun _ => []) t i F hkd (by rw [hl, hN]; exact hr1) hF hokF hbadF
      have READ2 : Hid (∀ S W, BkS w a3 i ks a4 xs ab N l W → W.cell? ⟨S, 0, none⟩ = some (.slice a3 i c3) → Calls Try.prog 17 #[.slice ab t cb, .func (.func 52) #[] #[.pointer (some ⟨S, 0, none⟩)]] W (fun e w' => e = .returned (.tuple #[.slice none 0 0, .int .i64 20]) ∧ Below W.heap.size W w')) := Lib.hid fun S W h h4 =>
        (gread_any ab t cb _ S a3 i c3 ks _ F W (h.2.2.1.take t (by omega)) (by omega) h.1 h4 (by omega) (by omega) hF hokF hbadF).mono fun e w' hE => by
          have := hE.2.2 hFi
          rwa [hF20] at this
      have READ3 : Hid (∀ a' c' S W, BkS w a3 i ks a4 xs ab N l W → BAt W a' (N + 1) (l ++ [0]) → N + 1 ≤ c' → W.cell? ⟨S, 0, none⟩ = some (.slice a3 i c3) → Calls Try.prog 17 #[.slice a' (N + 1) c', .func (.func 52) #[] #[.pointer (some ⟨S, 0, none⟩)]] W (fun e w' => e = .returned (.tuple #[.slice none 0 0, .int .i64 22]) ∧ Below W.heap.size W w')) := Lib.hid fun a' c' S W h hb' hc' h4 =>
        (gread_any a' (N + 1) c' _ S a3 i c3 ks _ i W hb' hc' h.1 h4 (by omega) (by omega) (Nat.le_refl _) (hok (N + 1) (by omega)) (fun h => by omega)).mono fun e w' hE => hE.2.1 rfl (by rw [hpp]; omega)
      clear hok hpp hokF hbadF hF20 hxb hxu hkd
      have ht0 : (0 : Int) ≤ (t : Int) := by omega
      have hwt : IntKind.i64.wrap (t : Int) = t := by rw [IntKind.wrap_i64]; omega
      have hN1 : ((N : Int) == 0) = false := by rw [beq_eq_false_iff_ne]; omega
      have hN2 : ¬ (N : Int) = 0 := by omega
      have hN3 : ¬ N = 0 := by omega
      have ht1 : (t : Int) ≤ (cb : Int) := by omega
      go_wp2_with fail
      refine (parse_fn a3 i c3 w3).mono ?_
      rintro e w4 ⟨S, rfl, hS4, hB4⟩
      have HS4 := Lib.hid (HST.out.below hB4); have HC4 := Lib.hid hS4; clear hB4 hS4 HST
      go_wp2_with fail
      refine (READ1.out S w4 HS4.out HC4.out).mono ?_
      rintro e w5 ⟨a5, c5, A5, L5, C5, rfl, hT5, hB5⟩
      have HS5 := Lib.hid (HS4.out.below hB5); have HT5 := Lib.hid hT5; clear hT5 hB5 HS4 HC4 READ1
      go_wp2_with fail
      refine (gsame_any a5 a4 i c5 c4 xs A5 _ L5 _ C5 _ _ w5 HT5.out HS5.out.2.1 (by omega)).mono ?_
      rintro e w6 ⟨rfl, j6, rfl⟩
      have HS6 := Lib.hid (HS5.out.below (below_drewN w5 _ j6)); clear HT5 HS5
      generalize w5.drewN j6 = w6 at HS6 ⊢
      go_wp2_with fail
      have hst := HS6.out
      go_region_held3 (BkS w a3 i ks a4 xs ab N l) (first | assumption | exact BkS.below (by assumption) (Below.refl _ _).drew | exact BkS.below (by assumption) hB)
        (first
          | (go_at_call 12
             refine (parse_fn a3 i c3 _).mono ?_
             rintro e w7 ⟨S7, rfl, hS7, hB⟩)
          | (go_at_call 17
             refine (READ2.out S7 _ (by assumption) hS7).mono ?_
             rintro e w8 ⟨rfl, hB⟩))
      all_goals
        have HS8 := Lib.hid (show BkS w a3 i ks a4 xs ab N l w8 by assumption)
        clear hst READ2 hS7 hB HS6
        go_wp2_with fail
        refine (copy_any ab N cb l w8 HS8.out.2.2.1 (by omega)).mono ?_
        rintro e w9 ⟨am, cm, rfl, hO9, hB9⟩
        obtain ⟨a10, c10, w10, hrun, hO10, hB10⟩ := append_one w9 22 w8.heap.size am N cm l hO9 0 (by decide) (by omega) hB9.size
        have hc10 : N + 1 ≤ c10 := by
          rcases hO10.row.2 with ⟨e, e2⟩ | ⟨g, cap, cur, e, _, _, h3, _⟩
          · omega
          · simp at e; omega
        have HS10 := Lib.hid (HS8.out.below (hB9.trans hB10)); have HO10 := Lib.hid hO10; have HRUN := Lib.hid hrun
        clear hO9 hB9 hO10 hB10 hrun HS8
        go_wp2_with (at_builtin; refine Lib.wpList_append_run _ rfl _ _ 22 22 rfl (.slice am N cm) _ (by rfl) (by rfl) _ _ HRUN.out ?_)
        refine (parse_fn a3 i c3 w10).mono ?_
        rintro e w11 ⟨S11, rfl, hS11, hB11⟩
        have HS11 := Lib.hid (HS10.out.below hB11); have HC11 := Lib.hid hS11; have HO11 := Lib.hid (HO10.out.below hB11); clear hB11 hS11 HS10 HO10
        go_wp2_with fail
        refine (READ3.out a10 c10 S11 w11 HS11.out HO11.out.bat hc10 HC11.out).mono ?_
        rintro e w12 ⟨rfl, hB12⟩
        have HS12 := Lib.hid (HS11.out.below hB12); clear hB12 HS11 HC11 HO11 READ3
        go_wp2
        go_ret
        exact ⟨rfl, HS12.out.2.2.2⟩
theorem walk_WireBack (a0 : Option Addr) (len0 cap0 : Nat) (z0 : List Int) (a1 : Int) (w : World) (w0 : IntRow .u64 w a0 len0 cap0 z0) :
    Calls Try.prog 4 #[.slice a0 len0 cap0, .int .i64 a1] w (TrueBelow w) := by
  by_cases h : 50 < len0 ∨ len0 = 0
  · exact back_out a0 len0 cap0 a1 w h
  · exact back_any a0 len0 cap0 z0 a1 w w0.wd.1 (by omega) (by omega)
end Go.Proofs.Ytknpdcnhdmbbiaa

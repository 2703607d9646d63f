
/-
  What WireParts' walk wants: steps in two parts, in numbers and in memory; gots appended to gots.
-/
import Derived.Test.YtknpdcnhdmbbiaaWireReads0
namespace Go.Proofs.Ytknpdcnhdmbbiaa
open Go.RowKit Go.Shelf
set_option linter.unusedVariables false
def up {α : Type} (f : Nat → α) (c : Nat) : Nat → α := fun j => f (c + j)
theorem pos_up (ks ns : Nat → Int) (n c : Nat) : ∀ j, pos ks ns n c + pos (up ks c) (up ns c) (n - pos ks ns n c) j = pos ks ns n (c + j)
  | 0 => rfl
  | j + 1 => by
    have ih := pos_up ks ns n c j
    show pos ks ns n c + (pos (up ks c) (up ns c) (n - pos ks ns n c) j + stepK (ks (c + j)) (ns (c + j)) (n - pos ks ns n c - pos (up ks c) (up ns c) (n - pos ks ns n c) j)) = pos ks ns n (c + j) + stepK (ks (c + j)) (ns (c + j)) (n - pos ks ns n (c + j))
    rw [Nat.sub_sub, ← Nat.add_assoc, ih]
theorem noAt_up (ks ns : Nat → Int) (n c j : Nat) : noAt (up ks c) (up ns c) (n - pos ks ns n c) j = noAt ks ns n (c + j) := by
  unfold noAt
  rw [Nat.sub_sub, pos_up]; rfl
theorem gotX_up (ks ns : Nat → Int) (l : List Int) (n c : Nat) (hl : l.length = n) : gotX (up ks c) (up ns c) (l.drop (pos ks ns n c)) = up (gotX ks ns l) c := by
  funext j
  unfold gotX
  rw [List.length_drop, hl, List.drop_drop, pos_up]
  rfl
theorem gotB_up (ks ns : Nat → Int) (l : List Int) (n c : Nat) (hl : l.length = n) : gotB (up ks c) (up ns c) (l.drop (pos ks ns n c)) = up (gotB ks ns l) c := by
  funext j
  unfold gotB
  rw [List.length_drop, hl, List.drop_drop, pos_up]
  rfl
theorem StAt.take {W : World} {a : Option Addr} {n : Nat} {ks ns : Nat → Int} (h : StAt W a n ks ns) (k : Nat) (hk : k ≤ n) : StAt W a k ks ns := by
  obtain ⟨b, o, hr⟩ := h
  exact ⟨b, o, fun i hi => hr i (by omega)⟩
def restS (a : Option Addr) (c k : Nat) : Option Addr := if c = k then a else a.map (·.add (k * 2))
theorem StAt.drop {W : World} {a : Option Addr} {n c : Nat} {ks ns : Nat → Int} (h : StAt W a n ks ns) (hc : n ≤ c) (k : Nat) (hk : k < n) : StAt W (restS a c k) (n - k) (up ks k) (up ns k) := by
  obtain ⟨b, o, hr⟩ := h
  obtain ⟨rfl, _⟩ := hr 0 (by omega)
  unfold restS
  rw [if_neg (by omega)]
  simp only [Option.map_some, add_none]
  refine ⟨b, o + k * 2, fun i hi => ?_⟩
  obtain ⟨_, h2, h3, h4⟩ := hr (k + i) (by omega)
  have e : o + (k + i) * 2 = o + k * 2 + i * 2 := by omega
  rw [e] at h3 h4
  exact ⟨rfl, h2, h3, h4⟩
theorem run_restS (a : Option Addr) (n c k : Nat) (hk : k ≤ n) (hn : n ≤ 9223372036854775807) (w : World) : (Instr.slice 23 (.slice a n c) (some (.int .i64 (k : Int))) none none).run Try.prog w = .ok (.slice (restS a c k) (n - k) (c - k)) w := by
  have ht : Try.prog.underlying 23 = some (.slice (Try.prog.elem 23)) := by kernel_rfl
  have hs : (sizeOf (Try.prog.elem 23)).run Try.prog w = .ok 2 w := by kernel_rfl
  rw [run_slice_l w 23 a n c ht .i64 (k : Int) (by omega) (by omega), Int.toNat_natCast, hs]
  simp only [sliced, restS, Result.andThen]
theorem gcells_add (xs : Nat → Int) (A A' : Nat → Option Addr) (bs : Nat → List Int) (C C' : Nat → Nat) (i : Nat) : ∀ m, gcells xs A bs C i ++ gcells (up xs i) A' (up bs i) C' m = gcells xs (fun j => if j < i then A j else A' (j - i)) bs (fun j => if j < i then C j else C' (j - i)) (i + m)
  | 0 => by
    simp only [gcells, List.append_nil, Nat.add_zero]
    exact gcells_congr (xs := xs) (bs := bs) i (fun j hj => by simp [hj])
  | m + 1 => by
    show _ ++ (gcells (up xs i) A' (up bs i) C' m ++ _) = gcells xs _ bs _ (i + m) ++ _
    rw [← List.append_assoc, gcells_add xs A A' bs C C' i m]
    have : ¬ i + m < i := by omega
    simp [up, this]
theorem gcells_one (xs : Nat → Int) (A : Nat → Option Addr) (bs : Nat → List Int) (C : Nat → Nat) : ∀ m u, u ∈ gcells xs A bs C m → u.oneCell' = true
  | 0, u, h => by simp [gcells] at h
  | m + 1, u, h => by
    simp only [gcells, List.mem_append, List.mem_cons, List.not_mem_nil, or_false] at h
    rcases h with h | rfl | rfl
    · exact gcells_one xs A bs C m u h
    · rfl
    · rfl
/-- append(first, rest...) of gots, both in rows of their own, the second made behind the first. -/
theorem append_gots (w : World) (ty : TypeId) (base base' : Nat) (a : Option Addr) (i c : Nat) (xs : Nat → Int) (bs : Nat → List Int) (h : GRow w base a i c xs bs) (a' : Option Addr) (m c' : Nat) (h' : GRow w base' a' m c' (up xs i) (up bs i)) (hm : 0 < m) (hbb : base ≤ base') (hsep : ∀ y, a = some y → y.block < base') (hi : i + m ≤ 1000000) (hbase : base' ≤ w.heap.size) :
    ∃ a2 c2 w2, (Builtin.append_ #[29, 29] ty #[.slice a i c, .slice a' m c']).run Try.prog w = .ok (.slice a2 (i + m) c2) w2 ∧
      GRow w2 base a2 (i + m) c2 xs bs ∧ w.grownBy w2 (a.map (·.block)) := by
  obtain ⟨i0, hi0, hz0, hz1, hz2⟩ := info_parts info_got
  obtain ⟨A, C, ho, he⟩ := h
  obtain ⟨A', C', ho', he'⟩ := h'
  obtain ⟨g', c0', rfl⟩ : ∃ g' cap, a' = some ⟨g', 0, none⟩ := by
    rcases ho'.2 with ⟨e, e2⟩ | ⟨g, cap, cur, e, _⟩
    · omega
    · simp at e; exact ⟨g, cap, e.1⟩
  have hsrc := ho'.cells (g := g') rfl
  obtain ⟨v', w2, hr, ho2, hg, hnil, hat⟩ := run_append_own_at (P := Try.prog) w base 29 ty 42 i0 _ 2 32 Try.underlying29 hi0 hz0 hz1 hz2 rfl (by decide) (.slice a i c) i _ ho ⟨g', 0, none⟩ m c' (gcells (up xs i) A' (up bs i) C' m) (gcells_len _ _ _ _ m) hsrc (gcells_one _ _ _ _ m) (by unfold maxLen; omega) (by omega) (by omega)
  have hv : ∃ g c2, v' = .slice (some ⟨g, 0, none⟩) (i + m) c2 ∧ base ≤ g := by
    rcases ho2.2 with ⟨rfl, e⟩ | ⟨g, cap, cur, rfl, hb, _⟩
    · omega
    · exact ⟨_, _, rfl, hb⟩
  obtain ⟨g, c2, rfl, hgb⟩ := hv
  have hga : (Value.slice a i c).ownBlock = a.map (·.block) := by cases a <;> rfl
  rw [hga] at hg hat
  have hne : ∀ (z : Addr), z.block < w.heap.size → (∀ y, a = some y → y.block ≠ z.block) → g ≠ z.block := fun z hz hs => by
    rcases hat with e | e
    · cases a with
      | none => simp [Value.ownBlock] at e
      | some y => have := hs y rfl; simp [Value.ownBlock] at e; omega
    · simp [Value.ownBlock] at e; omega
  have hk : ∀ (b : Option Addr) (n' c3 : Nat) (l : List Int), Own w base b n' c3 l → (∀ y z, a = some y → b = some z → y.block ≠ z.block) → Own w2 base b n' c3 l := fun b n' c3 l hb hs => hb.kept hg fun y hy e => by
    cases a with
    | none => simp at e
    | some y' => exact hs y' y rfl hy (by simpa using e)
  rw [gcells_add] at ho2
  refine ⟨some ⟨g, 0, none⟩, c2, w2, hr, ⟨_, _, ho2, fun j hj => ?_⟩, hg⟩
  by_cases e : j < i
  · simp only [if_pos e]
    refine ⟨hk _ _ _ _ (he j e).1 (he j e).2, fun y z hy hz => ?_⟩
    cases hy
    exact hne z (((he j e).1.blk z hz).2) fun y' hy' => (he j e).2 y' z hy' hz
  · simp only [if_neg e]
    have hO := (he' (j - i) (by omega)).1
    have eb : up bs i (j - i) = bs j := congrArg bs (show i + (j - i) = j by omega)
    rw [eb] at hO
    have hs : ∀ y z, a = some y → A' (j - i) = some z → y.block ≠ z.block := fun y z hy hz => by have := hsep y hy; have := (hO.blk z hz).1; omega
    refine ⟨hk _ _ _ _ (hO.mono hbb) hs, fun y z hy hz => ?_⟩
    cases hy
    exact hne z ((hO.blk z hz).2) fun y' hy' => hs y' z hy' hz
theorem and31 (n : Int) : bits .and .i64 n 31 = n % 32 := by
  have hmn : (BitVec.ofInt 64 (31 : Int)).toNat = 2 ^ 5 - 1 := by decide
  have key : (BitVec.ofInt 64 n &&& BitVec.ofInt 64 (31 : Int)).toNat = (n % ((2 ^ 64 : Nat) : Int)).toNat % 2 ^ 5 := by
    rw [BitVec.toNat_and, BitVec.toNat_ofInt, hmn, Nat.and_two_pow_sub_one_eq_mod]
  show IntKind.i64.wrap ((BitVec.ofInt 64 n &&& BitVec.ofInt 64 (31 : Int)).toNat : Nat) = _
  rw [key, IntKind.wrap_i64]
  omega
end Go.Proofs.Ytknpdcnhdmbbiaa

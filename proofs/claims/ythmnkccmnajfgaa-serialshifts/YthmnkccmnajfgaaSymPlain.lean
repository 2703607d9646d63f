/-
  Plain: what the parts of Go's stable merge do to an array of numbers.
-/
import Derived.Sort.LotA
namespace Go.Proofs.Ythmnkccmnajfgaa
open Go.Sort
set_option linter.unusedVariables false
variable {lt : Int → Int → Bool}

theorem sym_left (hS : SWO lt) {a b i : Nat} {d d' : Array Int} (hs : SortedIn lt (a + 1) b d) (hi : a + 1 ≤ i) (hb : i ≤ b)
    (h1 : ∀ h, a + 1 ≤ h → h < i → lt d[h]! d[a]! = true) (h2 : ∀ h, i ≤ h → h < b → lt d[h]! d[a]! = false)
    (e1 : ∀ t, a ≤ t → t + 1 < i → d'[t]! = d[t + 1]!) (e2 : d'[i - 1]! = d[a]!) (e3 : ∀ t, t < a ∨ i ≤ t → d'[t]! = d[t]!) : SortedIn lt a b d' := by
  intro p q hp hpq hq
  by_cases c1 : p + 1 < i
  · rw [e1 p hp c1]
    by_cases c2 : q + 1 < i
    · rw [e1 q (by omega) c2]; exact hs _ _ (by omega) (by omega) (by omega)
    · by_cases c3 : q = i - 1
      · rw [c3, e2]; exact hS.asymmA (h1 _ (by omega) (by omega))
      · rw [e3 q (by omega)]; exact hs _ _ (by omega) (by omega) (by omega)
  · by_cases c2 : p = i - 1
    · rw [c2, e2, e3 q (by omega)]; exact h2 _ (by omega) (by omega)
    · rw [e3 p (by omega), e3 q (by omega)]; exact hs _ _ (by omega) (by omega) (by omega)

theorem sym_right (hS : SWO lt) {a m i : Nat} {d d' : Array Int} (hs : SortedIn lt a m d) (ha : a ≤ i) (hi : i ≤ m)
    (h1 : ∀ h, a ≤ h → h < i → lt d[m]! d[h]! = false) (h2 : ∀ h, i ≤ h → h < m → lt d[m]! d[h]! = true)
    (e1 : ∀ t, i < t → t ≤ m → d'[t]! = d[t - 1]!) (e2 : d'[i]! = d[m]!) (e3 : ∀ t, t < i ∨ m < t → d'[t]! = d[t]!) : SortedIn lt a (m + 1) d' := by
  intro p q hp hpq hq
  by_cases c1 : p < i
  · rw [e3 p (by omega)]
    by_cases c2 : q < i
    · rw [e3 q (by omega)]; exact hs _ _ hp hpq (by omega)
    · by_cases c3 : q = i
      · rw [c3, e2]; exact h1 _ hp c1
      · rw [e1 q (by omega) (by omega)]; exact hs _ _ hp (by omega) (by omega)
  · by_cases c2 : p = i
    · rw [c2, e2, e1 q (by omega) (by omega)]; exact hS.asymmA (h2 _ (by omega) (by omega))
    · rw [e1 p (by omega) (by omega), e1 q (by omega) (by omega)]; exact hs _ _ (by omega) (by omega) (by omega)

/-- d' is d with the blocks [a, m) and [m, b) exchanged. -/
def Rot (d d' : Array Int) (a m b : Nat) : Prop := ∀ t, d'[t]! = if a ≤ t ∧ t < a + (b - m) then d[t + (m - a)]! else if a + (b - m) ≤ t ∧ t < b then d[t - (b - m)]! else d[t]!
/-- d' is d with n numbers from a on and n from b on exchanged. -/
def Swr (d d' : Array Int) (a b n : Nat) : Prop := ∀ t, d'[t]! = if a ≤ t ∧ t < a + n then d[t - a + b]! else if b ≤ t ∧ t < b + n then d[t - b + a]! else d[t]!

theorem Rot.step1 {d d1 d2 : Array Int} {m i j : Nat} (hi : i ≤ m) (hij : j < i) (h1 : Swr d d1 (m - i) m j) (h2 : Rot d1 d2 (m - (i - j)) m (m + j)) : Rot d d2 (m - i) m (m + j) := by
  intro t
  rw [h2 t]
  by_cases c1 : m - i ≤ t ∧ t < m - i + j
  · rw [if_pos (show m - i ≤ t ∧ t < m - i + (m + j - m) by omega), if_neg (by omega), if_neg (by omega), h1 t, if_pos c1]; congr 1; omega
  · rw [if_neg (show ¬ (m - i ≤ t ∧ t < m - i + (m + j - m)) by omega)]
    by_cases c2 : m - i + j ≤ t ∧ t < m + j
    · rw [if_pos (show m - i + (m + j - m) ≤ t ∧ t < m + j by omega)]
      by_cases c3 : t < m - i + 2 * j
      · rw [if_pos (by omega), h1 _, if_neg (by omega), if_pos (by omega)]; congr 1; omega
      · rw [if_neg (by omega), if_pos (by omega), h1 _, if_neg (by omega), if_neg (by omega)]
    · rw [if_neg (by omega), if_neg (by omega), if_neg (by omega), h1 t, if_neg (by omega), if_neg (by omega)]
theorem Rot.step2 {d d1 d2 : Array Int} {m i j : Nat} (hi : i ≤ m) (hij : i < j) (h1 : Swr d d1 (m - i) (m + j - i) i) (h2 : Rot d1 d2 (m - i) m (m + (j - i))) : Rot d d2 (m - i) m (m + j) := by
  intro t
  rw [h2 t]
  by_cases c1 : m - i ≤ t ∧ t < m - i + (j - i)
  · rw [if_pos (by omega), if_pos (by omega), h1 _]
    by_cases c3 : m + j - i ≤ t + (m - (m - i))
    · omega
    · rw [if_neg (by omega), if_neg (by omega)]
  · by_cases c2 : m - i + (j - i) ≤ t ∧ t < m + (j - i)
    · rw [if_neg (by omega), if_pos (by omega), h1 _, if_pos (by omega)]
      by_cases c3 : t < m - i + j
      · rw [if_pos (by omega)]; congr 1; omega
      · omega
    · rw [if_neg (by omega), if_neg (by omega), h1 t, if_neg (by omega)]
      by_cases c3 : m + j - i ≤ t ∧ t < m + j - i + i
      · rw [if_pos c3, if_neg (by omega), if_pos (by omega)]; congr 1; omega
      · rw [if_neg c3, if_neg (by omega), if_neg (by omega)]
theorem Rot.last {d d1 : Array Int} {m i : Nat} (hi : i ≤ m) (h1 : Swr d d1 (m - i) m i) : Rot d d1 (m - i) m (m + i) := by
  intro t
  by_cases c1 : m - i ≤ t ∧ t < m - i + i
  · rw [h1 t, if_pos c1, if_pos (by omega)]; congr 1; omega
  · by_cases c2 : m ≤ t ∧ t < m + i
    · rw [h1 t, if_neg c1, if_pos c2, if_neg (by omega), if_pos (by omega)]; congr 1; omega
    · rw [h1 t, if_neg c1, if_neg c2, if_neg (by omega), if_neg (by omega)]

/-- Behind the rotation: each half is made of two sorted rows, and nothing of the second is less than anything of the first. -/
theorem sym_halves (hS : SWO lt) {a m b mid s n : Nat} {d d' : Array Int} (ham : a ≤ m) (hmb : m ≤ b) (hmid : mid = (a + b) / 2) (hn : n = mid + m)
    (h1 : SortedIn lt a m d) (h2 : SortedIn lt m b d) (hs1 : a ≤ s) (hs2 : s ≤ m) (hs3 : s ≤ mid) (hs4 : n - s ≤ b) (hs5 : m ≤ n - s)
    (g1 : a < s → n - s < b → lt d[n - s]! d[s - 1]! = false) (g2 : s < m → m < n - s → lt d[n - 1 - s]! d[s]! = true) (hr : Rot d d' s m (n - s)) :
    SortedIn lt a s d' ∧ SortedIn lt s mid d' ∧ SortedIn lt mid (n - s) d' ∧ SortedIn lt (n - s) b d' ∧ ∀ p q, a ≤ p → p < mid → mid ≤ q → q < b → lt d'[q]! d'[p]! = false := by
  have e1 : ∀ t, t < s → d'[t]! = d[t]! := fun t ht => by rw [hr t, if_neg (by omega), if_neg (by omega)]
  have e2 : ∀ t, s ≤ t → t < mid → d'[t]! = d[t + (m - s)]! := fun t h h' => by rw [hr t, if_pos (by omega)]
  have e3 : ∀ t, mid ≤ t → t < n - s → d'[t]! = d[t - (n - s - m)]! := fun t h h' => by rw [hr t, if_neg (by omega), if_pos (by omega)]
  have e4 : ∀ t, n - s ≤ t → d'[t]! = d[t]! := fun t h => by rw [hr t, if_neg (by omega), if_neg (by omega)]
  -- x in [a, s): not more than y in [n - s, b)
  have k1 : ∀ x y, a ≤ x → x < s → n - s ≤ y → y < b → lt d[y]! d[x]! = false := fun x y hx hx' hy hy' => by
    have g := g1 (by omega) (by omega)
    have u : lt d[s - 1]! d[x]! = false := by
      by_cases e : x = s - 1
      · rw [e]; exact hS.irrefl _
      · exact h1 _ _ hx (by omega) (by omega)
    have v : lt d[y]! d[n - s]! = false := by
      by_cases e : y = n - s
      · rw [e]; exact hS.irrefl _
      · exact h2 _ _ (by omega) (by omega) hy'
    exact hS.ntrans _ _ _ v (hS.ntrans _ _ _ g u)
  have k2 : ∀ x y, m ≤ x → x < n - s → s ≤ y → y < m → lt d[y]! d[x]! = false := fun x y hx hx' hy hy' => by
    have g := hS.asymmA (g2 (by omega) (by omega))
    have u : lt d[y]! d[s]! = false := by
      by_cases e : y = s
      · rw [e]; exact hS.irrefl _
      · exact h1 _ _ (by omega) (by omega) hy'
    have v : lt d[n - 1 - s]! d[x]! = false := by
      by_cases e : x = n - 1 - s
      · rw [e]; exact hS.irrefl _
      · exact h2 _ _ hx (by omega) (by omega)
    exact hS.ntrans _ _ _ u (hS.ntrans _ _ _ g v)
  refine ⟨?_, ?_, ?_, ?_, ?_⟩
  · intro p q hp hpq hq; rw [e1 p (by omega), e1 q hq]; exact h1 _ _ hp hpq (by omega)
  · intro p q hp hpq hq; rw [e2 p hp (by omega), e2 q (by omega) hq]; exact h2 _ _ (by omega) (by omega) (by omega)
  · intro p q hp hpq hq; rw [e3 p hp (by omega), e3 q (by omega) hq]; exact h1 _ _ (by omega) (by omega) (by omega)
  · intro p q hp hpq hq; rw [e4 p hp, e4 q (by omega)]; exact h2 _ _ (by omega) (by omega) hq
  · intro p q hp hp' hq hq'
    by_cases c1 : p < s
    · rw [e1 p c1]
      by_cases c2 : q < n - s
      · rw [e3 q hq c2]; exact h1 _ _ hp (by omega) (by omega)
      · rw [e4 q (by omega)]; exact k1 _ _ hp c1 (by omega) hq'
    · rw [e2 p (by omega) hp']
      by_cases c2 : q < n - s
      · rw [e3 q hq c2]; exact k2 _ _ (by omega) (by omega) (by omega) (by omega)
      · rw [e4 q (by omega)]; exact h2 _ _ (by omega) (by omega) hq'

theorem sorted_join {a mid b : Nat} {d : Array Int} (h1 : SortedIn lt a mid d) (h2 : SortedIn lt mid b d) (h3 : ∀ p q, a ≤ p → p < mid → mid ≤ q → q < b → lt d[q]! d[p]! = false) : SortedIn lt a b d := by
  intro p q hp hpq hq
  by_cases c1 : q < mid
  · exact h1 _ _ hp hpq c1
  · by_cases c2 : p < mid
    · exact h3 _ _ hp c2 (by omega) hq
    · exact h2 _ _ (by omega) hpq hq
theorem sorted_congr {a b : Nat} {d d' : Array Int} (h : SortedIn lt a b d) (e : ∀ t, a ≤ t → t < b → d'[t]! = d[t]!) : SortedIn lt a b d' := by
  intro p q hp hpq hq
  rw [e p hp (by omega), e q (by omega) hq]; exact h _ _ hp hpq hq
/-- The first half is merged. -/
theorem sym_first {a mid b : Nat} {d d' : Array Int} (hb : b ≤ d.size) (hm : mid ≤ b) (hP : PermIn a mid d d') (h3 : ∀ p q, a ≤ p → p < mid → mid ≤ q → q < b → lt d[q]! d[p]! = false) :
    ∀ p q, a ≤ p → p < mid → mid ≤ q → q < b → lt d'[q]! d'[p]! = false := by
  intro p q hp hp' hq hq'
  rw [hP.2.1 q (by omega)]
  exact permIn_all d d' a mid (fun x => lt d[q]! x = false) (by omega) hP (fun i hi hi' => h3 _ _ hi hi' hq hq') p hp hp'
theorem sym_second {a mid b : Nat} {d d' : Array Int} (hb : b ≤ d.size) (hm : mid ≤ b) (hP : PermIn mid b d d') (h3 : ∀ p q, a ≤ p → p < mid → mid ≤ q → q < b → lt d[q]! d[p]! = false) :
    ∀ p q, a ≤ p → p < mid → mid ≤ q → q < b → lt d'[q]! d'[p]! = false := by
  intro p q hp hp' hq hq'
  rw [hP.2.1 p (by omega)]
  exact permIn_all d d' mid b (fun x => lt x d[p]! = false) hb hP (fun i hi hi' => h3 _ _ hp hp' hi hi') q hq hq'
end Go.Proofs.Ythmnkccmnajfgaa


/-
  RtpWrites: the reference's Write whole; two packets in their boxes; the walk.
-/
import Derived.Test.YtkoldfoliigifaaRtpRWrite2
import Derived.Test.YtkoldfoliigifaaRtpRSame
import Derived.Test.YtkoldfoliigifaaRtpClone
import Derived.Test.YtkoldfoliigifaaRtpAl
namespace Go.Proofs.Ytkoldfoliigifaa
open Go.RowKit Go.Shelf
set_option linter.unusedVariables false
set_option linter.unusedSimpArgs false
theorem rwrite5_any (p : Pk) (s : Pl) (w : World) (hp : PkAt w p s) (hs : Sm s) (hne : s.ne ≤ 2000) :
    Calls Try.prog 7 #[.agg (pkc p s)] w (WrOut (wcode p s) (wbytes p s) w) := by
  by_cases h0 : wcode p s = 0
  · have hb : wbytes p s = enc p s := by unfold wbytes; rw [if_pos h0]
    rw [h0, hb]
    exact rwrite5_ok p s w hp hs (vld_of hp h0)
  · have hb : wbytes p s = [] := by unfold wbytes; rw [if_neg h0]
    rw [hb]
    have hsz := Lib.hid (fun W => rsize_any p s W hs)
    have hpd := hp.pad
    have hbyte := hp.pad.ok (s.nd - 1)
    obtain ⟨m, pt, sq, ts, ss, cs, h, pr, ex, py, pd⟩ := p
    obtain ⟨ac, nc, cc, ae, ne, ce, ap, np, cp, ad, nd, cd⟩ := s
    generalize hzz : sz ⟨m, pt, sq, ts, ss, cs, h, pr, ex, py, pd⟩ ⟨ac, nc, cc, ae, ne, ce, ap, np, cp, ad, nd, cd⟩ = zz at hsz
    unfold wcode at h0 ⊢
    rw [hzz] at h0 ⊢
    simp only [pkc] at hsz hpd hne hbyte ⊢
    simp only [vext, vpad] at h0 ⊢
    by_cases h1 : pt < 0
    · rw [if_pos (.inl h1)]
      exact rwrite5_bad1 m h pt sq ts ss pr ac ae ap ad nc cc ne ce np cp nd cd w hne (.inl h1)
    by_cases h2 : 127 < pt
    · rw [if_pos (.inr (.inl h2))]
      exact rwrite5_bad1 m h pt sq ts ss pr ac ae ap ad nc cc ne ce np cp nd cd w hne (.inr (.inl ⟨h1, h2⟩))
    by_cases hx : (h = false ∧ pr = 0 ∧ ne = 0) ∨ (h = true ∧ ne % 4 = 0)
    · have hve : (if h = true then decide (ne % 4 = 0) else decide (ne = 0) && decide (pr = 0)) = true := by
        rcases hx with ⟨rfl, rfl, rfl⟩ | ⟨rfl, h4⟩
        · rfl
        · simp [h4]
      rw [hve] at h0 ⊢
      by_cases h255 : nd ≤ 255
      · by_cases hl : nd = 0 ∨ pd.getD (nd - 1) 0 = nd
        · have hvp : (decide (nd = 0) || decide (pd.getD (nd - 1) 0 = (nd : Int))) = true := by
            rcases hl with rfl | hl
            · simp
            · rw [decide_eq_true hl, Bool.or_true]
          rw [hvp] at h0 ⊢
          have hc : ¬ (pt < 0 ∨ 127 < pt ∨ true = false ∨ true = false) := by simp [h1, h2]
          rw [if_neg hc] at h0 ⊢
          by_cases h15 : 15 < nc
          · rw [if_pos h15]
            exact rwrite5_bad3 m h pt sq ts ss pr ac ae ap ad nc cc ne ce np cp nd cd pd w zz hne h1 h2 hx h255 hpd hl hsz 3 (.inl ⟨rfl, h15⟩)
          · rw [if_neg h15] at h0 ⊢
            by_cases h15b : 1500 < zz
            · rw [if_pos h15b]
              exact rwrite5_bad3 m h pt sq ts ss pr ac ae ap ad nc cc ne ce np cp nd cd pd w zz hne h1 h2 hx h255 hpd hl hsz 2 (.inr ⟨rfl, h15, h15b⟩)
            · rw [if_neg h15b] at h0
              exact absurd rfl h0
        · have hvp : (decide (nd = 0) || decide (pd.getD (nd - 1) 0 = (nd : Int))) = false := by
            rw [decide_eq_false (fun e => hl (.inl e)), decide_eq_false (fun e => hl (.inr e))]; rfl
          rw [hvp, if_pos (.inr (.inr (.inr rfl)))]
          exact rwrite5_bad2 m h pt sq ts ss pr ac ae ap ad nc cc ne ce np cp nd cd pd w hne h1 h2 hx h255 hpd (by have : nd ≠ 0 := fun e => hl (.inl e); omega) (fun e => hl (.inr e))
      · have hvp : (decide (nd = 0) || decide (pd.getD (nd - 1) 0 = (nd : Int))) = false := by
          rw [decide_eq_false (by omega), decide_eq_false (by omega)]; rfl
        rw [hvp, if_pos (.inr (.inr (.inr rfl)))]
        refine rwrite5_bad1 m h pt sq ts ss pr ac ae ap ad nc cc ne ce np cp nd cd w hne (.inr (.inr ⟨h1, h2, ?_⟩))
        rcases hx with ⟨a, b, c⟩ | ⟨a, b⟩
        · exact .inr (.inr (.inr (.inr ⟨a, b, c, by omega⟩)))
        · exact .inr (.inr (.inr (.inl ⟨a, b, by omega⟩)))
    · have hve : (if h = true then decide (ne % 4 = 0) else decide (ne = 0) && decide (pr = 0)) = false := by
        cases h
        · rw [if_neg (by decide)]
          by_cases ha : ne = 0
          · by_cases hb2 : pr = 0
            · exact absurd (.inl ⟨rfl, hb2, ha⟩) hx
            · rw [decide_eq_false hb2, Bool.and_false]
          · rw [decide_eq_false ha, Bool.false_and]
        · rw [if_pos rfl]
          exact decide_eq_false (fun e => hx (.inr ⟨rfl, e⟩))
      rw [hve, if_pos (.inr (.inr (.inl rfl)))]
      refine rwrite5_bad1 m h pt sq ts ss pr ac ae ap ad nc cc ne ce np cp nd cd w hne (.inr (.inr ⟨h1, h2, ?_⟩))
      cases h
      · by_cases hb2 : pr = 0
        · exact .inr (.inl ⟨rfl, hb2, by have : ne ≠ 0 := fun e => hx (.inl ⟨rfl, hb2, e⟩); omega⟩)
        · exact .inl ⟨rfl, hb2⟩
      · exact .inr (.inr (.inl ⟨rfl, fun e => hx (.inr ⟨rfl, e⟩)⟩))
end Go.Proofs.Ytkoldfoliigifaa

/-
  stripe.Fold over whatever iterator; stripe.All, stripe.Xor.
-/
import Derived.Test.YthfiahdeggmmcaaStrAll
namespace Go.Proofs.Ythfiahdeggmmcaa
open Go.RowKit Go.Shelf
set_option linter.unusedVariables false
attribute [local go_sem] Oper.semAt_some
def foldI (w : World) (B : Nat) (ls : List (List Int)) (k : Nat) (W : World) : Prop :=
  (∃ a c, SumAt W w.heap.size B a (Str.all [] (ls.take k)).length c (Str.all [] (ls.take k)) k) ∧ Below w.heap.size w W
theorem foldI.grown {w : World} {B m : Nat} {ls : List (List Int)} (hB : B = w.heap.size + 3 + m) : Stays (w.heap.size + 1) (w.heap.size + 1 + 2 + m) (foldI w B ls) := by
  rintro s A C row ⟨⟨a, c, hs⟩, hb⟩ hg hrow
  refine ⟨⟨a, c, hs.keep hg (fun e => by have := hrow _ e.symm; omega) (fun x hx e => by have := hrow _ e.symm; have := (hs.own.blk x hx).1; omega)⟩, hb.grown hg hb.size (fun k e => by have := hrow _ e; omega)⟩
set_option maxHeartbeats 1000000 in
set_option maxRecDepth 100000 in
theorem fold_any (w : World) (gf : Nat) (lb : Array Value) (R : Nat → Array Value → World → World → Prop) (ls : List (List Int)) (m : Nat) (Pre : World → Prop)
    (hseq : SeqRel Fence.wide 3 Try.prog gf lb R ls.length m Pre) (hent : Enters Try.prog gf)
    (hnil : ∀ w, (binOp .eql 103 (.func (.func gf) #[] lb) .nilFunc).run Try.prog w = .ok (.bool false) w)
    (hF : FoldsTo w R ls) (hsz : ∀ k x Wp W, R k x Wp W → ∃ v, x = #[v]) (hRs : ∀ x Wp lo hi, w.heap.size ≤ lo → hi ≤ Wp.heap.size → Stays lo hi (fun k W => R k x Wp W)) (hPre : ∀ W, Below w.heap.size w W → Pre W) (hcnt : ls.length ≤ 1099511627776) :
    Calls Try.prog 65 #[.func (.func gf) #[] lb] w (NewB (Str.all [] ls).length (Str.all [] ls) w) := by
  have HSEQ := Lib.hid hseq; have HF := Lib.hid hF; have HSZ := Lib.hid hsz; have HRS := Lib.hid hRs; have HPRE := Lib.hid hPre
  clear hseq hF hsz hRs hPre
  refine (callsIn_wide (n := 4)).1 ?_
  refine callsIn_of_wp_marks Try.func65 rfl trivial ?_ rfl
  simp only [Try.ntmps65, List.size_toArray, List.length_cons, List.length_nil, Nat.reduceAdd, Nat.reduceSub, Array.replicate_succ, Array.replicate_zero, List.push_toArray, List.append_toArray, List.nil_append, List.cons_append]
  gi_wp2
  have hB0 : Below w.heap.size w (w.alloc (Obj.cells #[Value.slice none 0 0, Value.int .i64 0] 65)) := (Below.refl _ w).alloc (Nat.le_refl _) _
  have hI0 : foldI w (w.heap.size + 3 + m) ls 0 (w.alloc (Obj.cells #[Value.slice none 0 0, Value.int .i64 0] 65)) :=
    ⟨⟨none, 0, heap_alloc_new w _, ⟨World.ownsRow_nil _ _ _ _, Str.ok_nil⟩, fun x hx => by cases hx⟩, hB0⟩
  have hz0 : (w.alloc (Obj.cells #[Value.slice none 0 0, Value.int .i64 0] 65)).heap.size = w.heap.size + 1 := by simp
  generalize w.alloc (Obj.cells #[Value.slice none 0 0, Value.int .i64 0] 65) = W0 at hB0 hI0 hz0 ⊢
  refine wp_range_rel rfl (by omega) (gf := gf) (lb := lb) rfl trivial hent HSEQ.out
    (fun k x Wp W h => by obtain ⟨v, rfl⟩ := HSZ.out k x Wp W h; rfl) (fun x Wp hWp => HRS.out x Wp _ _ (by omega) hWp)
    (foldI w (w.heap.size + 3 + m) ls) (fun _ _ _ => False) (by rw [hz0]; exact foldI.grown rfl) (fun _ _ _ _ _ h _ _ => h) (fun k W h => HPRE.out W h.2) hI0
    (fun x => { tmps := #[.func (.func gf) #[] lb, undef, .slice none 0 0, .pointer (some ⟨w.heap.size, 0, none⟩), x.getD 0 undef, .func (.func gf) #[] lb, .bool false, .func (.func gf) #[] lb, x.getD 0 undef, undef, undef, undef, undef], defers := [] })
    ?assign ?body ?done ?stop
  case assign =>
    intro l k x Wp W K hRx hK
    obtain ⟨v, rfl⟩ := HSZ.out k x Wp W hRx
    gi_wp2
    exact hK
  case body =>
    rintro l k x Wp W hk hIp hpw hRx hI hsz
    obtain ⟨⟨ap, cp, hSp⟩, hbp⟩ := hIp
    obtain ⟨⟨a, c, hS⟩, hb⟩ := hI
    obtain ⟨pa, pn, pc, rfl, hpn, hba, hblk⟩ := HF.out k x Wp W hk hbp hb (by omega) hRx
    have hh := (hpw.block w.heap.size hSp.lt (by intro e; simp at e; omega))
    rw [hSp.heap, hS.heap] at hh
    have hap : a = ap := by simp at hh; exact hh.1
    subst hap
    have hne : 0 < pn → ∀ x, pa = some x → x.block ≠ w.heap.size ∧ some x.block ≠ a.map (·.block) := fun h0 x hx => by
      rcases hblk x h0 hx with h | h
      · refine ⟨by omega, fun e => ?_⟩
        cases a with
        | none => cases e
        | some y => have := (hSp.own.blk y rfl).1; simp at e; omega
      · have := hSp.lt
        refine ⟨by omega, fun e => ?_⟩
        cases a with
        | none => cases e
        | some y => have := (hSp.own.blk y rfl).2; simp at e; omega
    have hbW : w.heap.size + 3 + m ≤ W.heap.size := by have := hpw.size; omega
    have hadd := add_any w.heap.size (w.heap.size + 3 + m) a _ c _ k pa pn pc _ W hS hba hne (by omega) (by omega) hpn hbW
    have HADD := Lib.hid hadd; have HB := Lib.hid hb; have HS := Lib.hid hS; have HBA := Lib.hid hba
    clear hadd hb hbp hS hSp hba hblk hpw hRx hh hne
    gi_wp2_with (refine ⟨trivial, ?_⟩; gi_at_call 28; refine (callsIn_wide.2 HADD.out).mono ?_; rintro e w1 ⟨rfl, a1, c1, hS1, hK1, hloc1⟩)
    have hall := Str.all_take ls k hk
    refine ⟨⟨hK1.size, fun r h1 h2 => hK1.block r (by omega) (by omega) (fun e => ?_)⟩, ⟨a1, c1, ?_⟩, ?_⟩
    · cases a with
      | none => cases e
      | some y => have := (HS.out.own.blk y rfl).1; simp at e; omega
    · rw [hall, Str.xor_len]
      have e1 := HBA.out.len
      rw [e1]; exact hS1
    · exact HB.out.trans (hK1.below (Nat.le_refl _) (fun x e => by
        cases a with
        | none => cases e
        | some y => have := (HS.out.own.blk y rfl).1; simp at e; omega) (by omega))
  case done =>
    rintro W ⟨⟨a, c, hS⟩, hb⟩ hK
    rw [List.take_length] at hS
    have hc := hS.c0
    have HS := Lib.hid hS; have HB := Lib.hid hb; clear hS hb
    gi_wp2
    refine ⟨by simp, .inl ⟨_, _, rfl, run_takeDeferred hK, ?_⟩⟩
    refine ⟨_, results_tmp rfl _ _ _, a, c, rfl, ⟨?_, HS.out.own.ok⟩, ?_⟩
    · exact ownsRow_putObj ((HS.out.own.mono (by omega)).row) (.deferred none) hK rfl
    · exact HB.out.trans (belowK_b (w := w) (Nat.le_refl _) W W0.heap.size _ _ (by omega) hK rfl rfl)
  case stop => rintro c k W _ h _; exact h.elim
/-- The slice a of len slices of bytes reads as ls. -/
structure RAt (W : World) (a : Option Addr) (len : Nat) (ls : List (List Int)) : Prop where
  count : ls.length = len
  row : ∃ b o, ∃ (av : Nat → Option Addr) (nv cv : Nat → Nat), ∀ k, k < len → a = some ⟨b, o, none⟩ ∧ b < W.heap.size ∧ W.cell? ⟨b, o + k, none⟩ = some (.slice (av k) (nv k) (cv k)) ∧ BAt W (av k) (nv k) (ls.getD k []) ∧ nv k ≤ 140737488355328
theorem RAt.below {W W' : World} {a : Option Addr} {len : Nat} {ls : List (List Int)} (h : RAt W a len ls) (hb : Below W.heap.size W W') : RAt W' a len ls := by
  obtain ⟨b, o, av, nv, cv, hr⟩ := h.row
  refine ⟨h.count, b, o, av, nv, cv, fun k hk => ?_⟩
  obtain ⟨h1, h2, h3, h4, h5⟩ := hr k hk
  exact ⟨h1, by have := hb.size; omega, (hb.cell (p := ⟨b, o + k, none⟩) h2).trans h3, h4.below hb, h5⟩
theorem BAt.lt {W : World} {a : Option Addr} {n : Nat} {l : List Int} (h : BAt W a n l) (h0 : 0 < n) (x : Addr) (hx : a = some x) : x.block < W.heap.size := by
  obtain ⟨b, o, hr⟩ := h.row
  obtain ⟨h1, h2, _⟩ := hr 0 h0
  rw [h1] at hx; cases hx; exact h2
theorem below_of_alloc {w W : World} {o : Obj} (h : Below (w.alloc o).heap.size (w.alloc o) W) : Below w.heap.size w W :=
  ((Below.refl _ w).alloc (Nat.le_refl _) o).trans (h.mono (by simp))
set_option maxHeartbeats 1000000 in
set_option maxRecDepth 100000 in
theorem all_any (a : Option Addr) (len c : Nat) (ls : List (List Int)) (w : World) (h : RAt w a len ls) (hlen : len ≤ 1099511627776) :
    Calls Try.prog 30 #[.slice a len c] w (NewB (Str.all [] ls).length (Str.all [] ls) w) := by
  obtain ⟨b, o, av, nv, cv, hr⟩ := h.row
  have hl := h.count
  subst hl
  have hent : Enters Try.prog 79 := enters_of Try.func79 (by kernel_rfl) rfl
  have hfold := fold_any (w.alloc (.cells #[.slice a ls.length c] 61)) 79 #[.pointer (some ⟨w.heap.size, 0, none⟩)] (valsRel (fun k => .slice (av k) (nv k) (cv k))) ls 0
    (valsPre w.heap.size a ls.length c b o (fun k => .slice (av k) (nv k) (cv k)))
    (values_rel 3 (by omega) w.heap.size a ls.length c b o (by omega) (fun h0 => (hr 0 h0).1) _) hent (fun w => by kernel_rfl)
    (fun k v Wp W hk hb1 hb2 hs hR => by
      obtain ⟨_, _, _, h4, h5⟩ := hr k hk
      have hv : v = #[.slice (av k) (nv k) (cv k)] := hR
      refine ⟨_, _, _, hv, h5, h4.below (below_of_alloc hb2), fun x h0 hx => .inl (by have := h4.lt h0 x hx; simp; omega)⟩)
    (fun k x Wp W hR => ⟨_, hR⟩) (fun x Wp lo hi _ _ s A B row hR _ _ => hR)
    (fun W hb => by
      have hb' := below_of_alloc hb
      refine ⟨(hb.cell (p := ⟨w.heap.size, 0, none⟩) (by simp)).trans (by simp [go_sem]), fun k hk => ?_⟩
      obtain ⟨_, h2, h3, _⟩ := hr k hk
      exact (hb'.cell (p := ⟨b, o + k, none⟩) h2).trans h3) hlen
  have HFOLD := Lib.hid hfold; clear hfold hr
  go_enter Try.func30, Try.ntmps30
  go_wp2_with (first
    | (go_at_call 67; refine (values_any a ls.length c _).mono ?_; rintro e w' ⟨rfl, rfl⟩)
    | (go_at_call 65; refine (HFOLD.out).mono ?_; rintro e w' ⟨a', c', rfl, hown, hbel⟩; have HOWN := Lib.hid hown; have HBEL := Lib.hid hbel; clear hown hbel))
  go_ret
  exact ⟨_, _, rfl, HOWN.out.mono (by simp), below_of_alloc HBEL.out⟩
/-- Two slices laid side by side. -/
theorem rat_two (w : World) (a b : Option Addr) (n m c d : Nat) (la lb : List Int) (ha : BAt w a n la) (hb : BAt w b m lb) (hn : n ≤ 140737488355328) (hm : m ≤ 140737488355328) :
    RAt (w.alloc (.cells #[.slice a n c, .slice b m d] 22)) (some ⟨w.heap.size, 0, none⟩) 2 [la, lb] := by
  have hbel : Below w.heap.size w (w.alloc (.cells #[.slice a n c, .slice b m d] 22)) := (Below.refl _ w).alloc (Nat.le_refl _) _
  refine ⟨rfl, w.heap.size, 0, fun k => if k = 0 then a else b, fun k => if k = 0 then n else m, fun k => if k = 0 then c else d, fun k hk => ?_⟩
  match k, hk with
  | 0, _ => exact ⟨rfl, by simp, by simp [go_sem], ha.below hbel, hn⟩
  | 1, _ => exact ⟨rfl, by simp, by simp [go_sem], hb.below hbel, hm⟩
theorem xor_any (a b : Option Addr) (n m c d : Nat) (la lb : List Int) (w : World) (ha : BAt w a n la) (hb : BAt w b m lb) (hn : n ≤ 140737488355328) (hm : m ≤ 140737488355328) :
    Calls Try.prog 34 #[.slice a n c, .slice b m d] w (NewB (max n m) (Str.xor la lb) w) := by
  have e : Str.all [] [la, lb] = Str.xor la lb := by show Str.xor (Str.xor [] la) lb = _; rw [Str.nil_xor ha.ok]
  have hall := all_any (some ⟨w.heap.size, 0, none⟩) 2 2 [la, lb] _ (rat_two w a b n m c d la lb ha hb hn hm) (by omega)
  rw [e, Str.xor_len, ha.len, hb.len] at hall
  have HALL := Lib.hid hall; clear hall ha hb
  go_enter Try.func34, Try.ntmps34
  go_wp2_with (go_at_call 30; refine (HALL.out).mono ?_; rintro e w' ⟨a', c', rfl, hown, hbel⟩; have HOWN := Lib.hid hown; have HBEL := Lib.hid hbel; clear hown hbel)
  go_ret
  exact ⟨_, _, rfl, HOWN.out.mono (by simp), below_of_alloc HBEL.out⟩
end Go.Proofs.Ythfiahdeggmmcaa

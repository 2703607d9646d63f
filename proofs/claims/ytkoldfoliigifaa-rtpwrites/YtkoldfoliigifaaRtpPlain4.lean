
/-
  Another number, time and source: the plain side.
-/
import Derived.Test.YtkoldfoliigifaaRtpPlain2
import Derived.Test.YtkoldfoliigifaaRtpParse3
namespace Go.Proofs.Ytkoldfoliigifaa
open Go.RowKit Go.Shelf
set_option linter.unusedVariables false
def upd (p : Pk) (x y z : Int) : Pk := ⟨p.marker, p.pt, x, y, z, p.csrc, p.hasExt, p.profile, p.ext, p.payload, p.pad⟩
theorem upd_code (p : Pk) (s : Pl) (x y z : Int) (a1 a2 a3 a4 : Option Addr) (c1 c2 c3 c4 : Nat) : wcode (upd p x y z) ⟨a1, s.nc, c1, a2, s.ne, c2, a3, s.np, c3, a4, s.nd, c4⟩ = wcode p s := rfl
theorem upd_sz (p : Pk) (s : Pl) (x y z : Int) (a1 a2 a3 a4 : Option Addr) (c1 c2 c3 c4 : Nat) : sz (upd p x y z) ⟨a1, s.nc, c1, a2, s.ne, c2, a3, s.np, c3, a4, s.nd, c4⟩ = sz p s := rfl
theorem upd_take (p : Pk) (s : Pl) (x y z : Int) (a1 a2 a3 a4 : Option Addr) (c1 c2 c3 c4 : Nat) : (enc (upd p x y z) ⟨a1, s.nc, c1, a2, s.ne, c2, a3, s.np, c3, a4, s.nd, c4⟩).take 2 = (enc p s).take 2 := by
  rw [enc_cons, enc_cons p s]; rfl
theorem upd_drop (p : Pk) (s : Pl) (x y z : Int) (a1 a2 a3 a4 : Option Addr) (c1 c2 c3 c4 : Nat) : (enc (upd p x y z) ⟨a1, s.nc, c1, a2, s.ne, c2, a3, s.np, c3, a4, s.nd, c4⟩).drop 12 = (enc p s).drop 12 := by
  have e1 := enc_drop12 p s 0
  have e2 := enc_drop12 (upd p x y z) ⟨a1, s.nc, c1, a2, s.ne, c2, a3, s.np, c3, a4, s.nd, c4⟩ 0
  rw [Nat.add_zero, List.drop_zero] at e1 e2
  rw [e1, e2]; rfl
theorem upd_mid (p : Pk) (s : Pl) : ((enc p s).drop 2).take 10 = [Big 2 p.seq, Big 4 p.ts, Big 4 p.ssrc].flatten := by
  rw [enc_cons]
  simp only [List.drop_succ_cons, List.drop_zero]
  have := takeA (A := Big 2 p.seq ++ (Big 4 p.ts ++ Big 4 p.ssrc)) (B := longs p.csrc ++ (encX p s ++ (p.payload ++ p.pad))) (n := 10) (by simp [Big_len])
  simpa using this
theorem enc_mark {p : Pk} {s : Pl} (h : Vld p s) : decide (128 ≤ (enc p s).getD 1 0) = p.marker := by
  rw [enc1 h]; have := h.pt; unfold hd1
  cases p.marker <;> simp <;> omega
theorem and15_u8 (x : Int) (h0 : 0 ≤ x) (h1 : x < 256) : bits .and .u8 x 15 = x % 16 := by
  have : ∀ n : Fin 256, bits .and .u8 ((n : Nat) : Int) 15 = ((n : Nat) : Int) % 16 := by decide +kernel
  obtain ⟨n, rfl⟩ := Int.eq_ofNat_of_zero_le h0
  exact this ⟨n, by omega⟩
theorem enc_cnt {p : Pk} {s : Pl} (h : Vld p s) : bits .and .u8 ((enc p s).getD 0 0) 15 = (s.nc : Int) := by
  have hb := hd0_bd h
  rw [enc0 h, and15_u8 _ (by omega) (by omega)]
  have := h.n15; unfold hd0; split <;> split <;> omega
theorem run_mid (a : Option Addr) (n c : Nat) (h12 : 12 ≤ c) (w : World) : (Instr.slice 25 (.slice a n c) (some (.int .i64 2)) (some (.int .i64 12)) none).run Try.prog w = .ok (.slice (restA a c 2) 10 (c - 2)) w := by
  have ht : Try.prog.underlying 25 = some (.slice (Try.prog.elem 25)) := by kernel_rfl
  have hs : (sizeOf (Try.prog.elem 25)).run Try.prog w = .ok 1 w := by kernel_rfl
  rw [run_slice_lh w 25 a n c ht .i64 .i64 2 12 (by decide) (by decide) (by omega), hs]
  simp only [sliced, restA, Result.andThen, Nat.mul_one]
  rfl
theorem rat_three (w : World) (a b e : Option Addr) (n m k c d f : Nat) (la lb le : List Int) (ha : BAt w a n la) (hb : BAt w b m lb) (he : BAt w e k le) (hn : n ≤ 140737488355328) (hm : m ≤ 140737488355328) (hk : k ≤ 140737488355328) :
    RAt (w.alloc (.cells #[.slice a n c, .slice b m d, .slice e k f] 25)) (some ⟨w.heap.size, 0, none⟩) 3 [la, lb, le] := by
  have hbel : Below w.heap.size w (w.alloc (.cells #[.slice a n c, .slice b m d, .slice e k f] 25)) := (Below.refl _ w).alloc (Nat.le_refl _) _
  refine ⟨rfl, w.heap.size, 0, fun i => if i = 0 then a else if i = 1 then b else e, fun i => if i = 0 then n else if i = 1 then m else k, fun i => if i = 0 then c else if i = 1 then d else f, fun i hi => ?_⟩
  match i, hi with
  | 0, _ => exact ⟨rfl, by simp, by simp [go_sem], ha.below hbel, hn⟩
  | 1, _ => exact ⟨rfl, by simp, by simp [go_sem], hb.below hbel, hm⟩
  | 2, _ => exact ⟨rfl, by simp, by simp [go_sem], he.below hbel, hk⟩
end Go.Proofs.Ytkoldfoliigifaa

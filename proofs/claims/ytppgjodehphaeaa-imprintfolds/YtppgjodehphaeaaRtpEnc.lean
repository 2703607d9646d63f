/-
  A packet in memory; Size.
-/
import Derived.Test.YtppgjodehphaeaaWireGot
namespace Go.Proofs.Ytppgjodehphaeaa
open Go.RowKit Go.Shelf
set_option linter.unusedVariables false
structure Pk where
  marker : Bool
  pt : Int
  seq : Int
  ts : Int
  ssrc : Int
  csrc : List Int
  hasExt : Bool
  profile : Int
  ext : List Int
  payload : List Int
  pad : List Int
/-- Where a packet's slices lie. -/
structure Pl where
  ac : Option Addr
  nc : Nat
  cc : Nat
  ae : Option Addr
  ne : Nat
  ce : Nat
  ap : Option Addr
  np : Nat
  cp : Nat
  ad : Option Addr
  nd : Nat
  cd : Nat
def pkc (p : Pk) (s : Pl) : Array Value := #[.bool p.marker, .int .i64 p.pt, .int .u16 p.seq, .int .u32 p.ts, .int .u32 p.ssrc, .slice s.ac s.nc s.cc, .bool p.hasExt, .int .u16 p.profile, .slice s.ae s.ne s.ce, .slice s.ap s.np s.cp, .slice s.ad s.nd s.cd]
/-- Numbers of four bytes in memory. -/
def LgAt (W : World) (a : Option Addr) (n : Nat) (l : List Int) : Prop :=
  l.length = n ∧ ∃ b o, ∀ i, i < n → a = some ⟨b, o, none⟩ ∧ b < W.heap.size ∧ W.cell? ⟨b, o + i, none⟩ = some (.int .u32 (l.getD i 0)) ∧ 0 ≤ l.getD i 0 ∧ l.getD i 0 < 4294967296
theorem LgAt.below {W W' : World} {a : Option Addr} {n : Nat} {l : List Int} (h : LgAt W a n l) (hb : Below W.heap.size W W') : LgAt W' a n l := by
  obtain ⟨hl, b, o, hr⟩ := h
  refine ⟨hl, b, o, fun i hi => ?_⟩
  obtain ⟨h1, h2, h3, h4⟩ := hr i hi
  exact ⟨h1, by have := hb.size; omega, (hb.cell (p := ⟨b, o + i, none⟩) h2).trans h3, h4⟩
structure PkAt (W : World) (p : Pk) (s : Pl) : Prop where
  csrc : LgAt W s.ac s.nc p.csrc
  ext : BAt W s.ae s.ne p.ext
  pay : BAt W s.ap s.np p.payload
  pad : BAt W s.ad s.nd p.pad
  seq : 0 ≤ p.seq ∧ p.seq < 65536
  ts : 0 ≤ p.ts ∧ p.ts < 4294967296
  ssrc : 0 ≤ p.ssrc ∧ p.ssrc < 4294967296
  prof : 0 ≤ p.profile ∧ p.profile < 65536
theorem PkAt.below {W W' : World} {p : Pk} {s : Pl} (h : PkAt W p s) (hb : Below W.heap.size W W') : PkAt W' p s :=
  ⟨h.csrc.below hb, h.ext.below hb, h.pay.below hb, h.pad.below hb, h.seq, h.ts, h.ssrc, h.prof⟩
/-- Few bytes and numbers (more than any packet of the laws has). -/
def Sm (s : Pl) : Prop := s.nc ≤ 100000 ∧ s.ne ≤ 100000 ∧ s.np ≤ 100000 ∧ s.nd ≤ 100000
def sz (p : Pk) (s : Pl) : Nat := 12 + 4 * s.nc + s.np + s.nd + (if p.hasExt then 4 + s.ne else 0)
def ValB (v : Value) (w : World) (e : Ending) (w' : World) : Prop := e = .returned v ∧ Below w.heap.size w w'
def few (s : Pl) : Bool := decide (s.nc ≤ 30) && (decide (s.ne ≤ 2000) && (decide (s.np ≤ 2000) && decide (s.nd ≤ 400)))
/-- The padding keeps its rule: none, or its last byte is its length. -/
def vpad (l : List Int) (n : Nat) : Bool := decide (n = 0) || decide (l.getD (n - 1) 0 = n)
/-- The extension keeps its rule. -/
def vext (p : Pk) (s : Pl) : Bool := if p.hasExt then decide (s.ne % 4 = 0) else decide (s.ne = 0) && decide (p.profile = 0)
end Go.Proofs.Ytppgjodehphaeaa
namespace Go.Proofs.Ytppgjodehphaeaa
open Go.RowKit Go.Shelf
set_option linter.unusedVariables false
/-- A write leaves the bytes l in the Writer s. -/
def Wrote (w0 : World) (s : Nat) (l : List Int) (n : Nat) (e : Ending) (w' : World) : Prop := e = .returned (.tuple #[]) ∧ WriteSt w0 s l n w'
theorem st_byte {w0 W : World} {s n : Nat} {l : List Int} (hs : w0.heap.size ≤ s) (h : WriteSt w0 s l n W) (x : Int) (hx : 0 ≤ x) (hx' : x ≤ 9223372036854775807) (hn : n ≤ 100000000) :
    Calls Try.prog 50 #[.pointer (some ⟨s, 0, none⟩), .int .i64 x] W (Wrote w0 s (l ++ Big 1 x) (n + 1)) := by
  obtain ⟨a, c, h1, h2⟩ := h
  exact (wbyte_any s w0.heap.size a n c l x W h1 hx hx' (by omega) h2.size).mono fun e w' hp => WriteSt.step hs h1 h2 hp
theorem st_word {w0 W : World} {s n : Nat} {l : List Int} (hs : w0.heap.size ≤ s) (h : WriteSt w0 s l n W) (x : Int) (hx : 0 ≤ x ∧ x < 65536) (hn : n ≤ 100000000) :
    Calls Try.prog 54 #[.pointer (some ⟨s, 0, none⟩), .int .u16 x] W (Wrote w0 s (l ++ Big 2 x) (n + 2)) := by
  obtain ⟨a, c, h1, h2⟩ := h
  exact (wword_any s w0.heap.size a n c l x W h1 hx.1 hx.2 (by omega) h2.size).mono fun e w' hp => WriteSt.step hs h1 h2 hp
theorem st_long {w0 W : World} {s n : Nat} {l : List Int} (hs : w0.heap.size ≤ s) (h : WriteSt w0 s l n W) (x : Int) (hx : 0 ≤ x ∧ x < 4294967296) (hn : n ≤ 100000000) :
    Calls Try.prog 52 #[.pointer (some ⟨s, 0, none⟩), .int .u32 x] W (Wrote w0 s (l ++ Big 4 x) (n + 4)) := by
  obtain ⟨a, c, h1, h2⟩ := h
  exact (wlong_any s w0.heap.size a n c l x W h1 hx.1 hx.2 (by omega) h2.size).mono fun e w' hp => WriteSt.step hs h1 h2 hp
theorem BAt.far {w0 W : World} {a : Option Addr} {n : Nat} {l : List Int} (h : BAt w0 a n l) (hb : Below w0.heap.size w0 W) : BAt W a n l := h.below hb
theorem st_put {w0 W : World} {s n : Nat} {l : List Int} (hs : w0.heap.size ≤ s) (h : WriteSt w0 s l n W) (pa : Option Addr) (pn pc : Nat) (lp : List Int) (hb : BAt w0 pa pn lp) (hn : n ≤ 100000000) (hpn : pn ≤ 100000000) :
    Calls Try.prog 61 #[.pointer (some ⟨s, 0, none⟩), .slice pa pn pc] W (Wrote w0 s (l ++ lp) (n + pn)) := by
  obtain ⟨a, c, h1, h2⟩ := h
  exact (wput_any s w0.heap.size a n c l pa pn pc lp W h1 (hb.below h2) (by omega) h2.size).mono fun e w' hp => WriteSt.step hs h1 h2 hp
theorem st_done {w0 W : World} {s n : Nat} {l : List Int} (h : WriteSt w0 s l n W) (hn : n ≤ 100000000) :
    Calls Try.prog 57 #[.pointer (some ⟨s, 0, none⟩)] W (NewB n l W) := by
  obtain ⟨a, c, h1, h2⟩ := h
  exact wdone_any s w0.heap.size a n c l W h1 (by omega)
theorem WriteSt.drew {w0 W : World} {s n : Nat} {l : List Int} (h : WriteSt w0 s l n W) : WriteSt w0 s l n W.drew := by
  obtain ⟨a, c, h1, h2⟩ := h
  exact ⟨a, c, h1.below (Below.refl _ W).drew, h2.drew⟩
theorem WriteSt.low {w0 W : World} {s n : Nat} {l : List Int} (h : WriteSt w0 s l n W) : Below w0.heap.size w0 W := h.choose_spec.choose_spec.2
def longs (l : List Int) : List Int := (l.map (Big 4)).flatten
theorem longs_take (l : List Int) (i : Nat) (h : i < l.length) : longs (l.take (i + 1)) = longs (l.take i) ++ Big 4 (l.getD i 0) := by
  unfold longs
  rw [List.take_add_one, List.getElem?_eq_getElem h, List.map_append, List.flatten_append]
  simp only [Option.toList_some, List.map_cons, List.map_nil, List.flatten_cons, List.flatten_nil, List.append_nil]
  rw [List.getD_eq_getElem?_getD, List.getElem?_eq_getElem h]; rfl
def hd0 (p : Pk) (s : Pl) : Int := 128 + (if decide (0 < s.nd) = true then 32 else 0) + (if p.hasExt = true then 16 else 0) + s.nc
def hd1 (p : Pk) : Int := (if p.marker = true then 128 else 0) + p.pt
def enc (p : Pk) (s : Pl) : List Int :=
  Big 1 (hd0 p s) ++ (Big 1 (hd1 p) ++ (Big 2 p.seq ++ (Big 4 p.ts ++ (Big 4 p.ssrc ++ (longs p.csrc ++ ((if p.hasExt then Big 2 p.profile ++ (Big 2 ((s.ne / 4 : Nat) : Int) ++ p.ext) else []) ++ (p.payload ++ p.pad)))))))
theorem or_hd0 (b h : Bool) (n : Nat) (hn : n ≤ 15) : bits .or .i64 (bits .or .i64 (bits .or .i64 128 (if b = true then 32 else 0)) (if h = true then 16 else 0)) (n : Int) = 128 + (if b = true then 32 else 0) + (if h = true then 16 else 0) + n := by
  have : ∀ (b h : Bool) (n : Fin 16), bits .or .i64 (bits .or .i64 (bits .or .i64 128 (if b = true then 32 else 0)) (if h = true then 16 else 0)) ((n : Nat) : Int) = 128 + (if b = true then 32 else 0) + (if h = true then 16 else 0) + ((n : Nat) : Int) := by decide
  exact this b h ⟨n, by omega⟩
theorem or_hd1 (m : Bool) (pt : Int) (h0 : 0 ≤ pt) (h1 : pt ≤ 127) : bits .or .i64 (if m = true then 128 else 0) pt = (if m = true then 128 else 0) + pt := by
  have : ∀ (m : Bool) (n : Fin 128), bits .or .i64 (if m = true then 128 else 0) ((n : Nat) : Int) = (if m = true then 128 else 0) + ((n : Nat) : Int) := by decide
  obtain ⟨n, rfl⟩ := Int.eq_ofNat_of_zero_le h0
  exact this m ⟨n, by omega⟩
end Go.Proofs.Ytppgjodehphaeaa


/-
  RedChains over blocks as they come in.
-/
import Derived.Test.YtpannhbmelcpfaaRedChains
import Derived.Test.YtpannhbmelcpfaaRtpOpen
namespace Go.Proofs.Ytpannhbmelcpfaa
open Go.RowKit Go.Shelf
set_option linter.unusedVariables false
theorem BkIn.cap {w : World} {a : Option Addr} {len cap : Nat} {P O : Nat → Int} {A : Nat → Option Addr} {L C : Nat → Nat} {Z : Nat → List Int} (h : BkIn w a len cap P O A L C Z) : len ≤ cap := by
  rcases h with ⟨_, h1, h2⟩ | ⟨x, _, h1, _⟩ <;> omega
theorem chains_in (a : Option Addr) (len cap : Nat) (P O : Nat → Int) (A : Nat → Option Addr) (L C : Nat → Nat) (Z : Nat → List Int) (p : Pk) (s : Pl) (w : World) (w0 : BkIn w a len cap P O A L C Z) (hp : PkAt w p s) :
    Calls Try.prog 6 #[.slice a len cap, .agg (pkc p s)] w (True6 w) := by
  have h := w0.at
  refine walk_RedChains _ _ _ _ _ _ _ _ p s w h.1 w0.cap h.2 (fun i hi => ?_) hp
  obtain ⟨b, o, hr⟩ := h.1
  exact (hr i hi).2.2.2.2.2.1.lim
end Go.Proofs.Ytpannhbmelcpfaa

/- What is proved here: a contract of nat.divide: what a number leaves, divided by another one whose highest limb is not 0. -/
import Derived.Test.YtkkmekdhejhapaaDiv64
import Derived.Deep.LoopGhost
import Derived.WalkSmall
namespace Go.Proofs.Ytkkmekdhejhapaa
open Go.RowKit
theorem ViewB.mono {B B' : Nat} {w : World} {a : Option Addr} {n : Nat} {xs : List Nat} (h : ViewB B w a n xs) (hB : B ≤ B') : ViewB B' w a n xs :=
  ⟨h.len, h.small, fun i hi => by
    obtain ⟨b, off, e, hlt, hc⟩ := h.cell i hi
    exact ⟨b, off, e, Nat.lt_of_lt_of_le hlt hB, hc⟩⟩
end Go.Proofs.Ytkkmekdhejhapaa

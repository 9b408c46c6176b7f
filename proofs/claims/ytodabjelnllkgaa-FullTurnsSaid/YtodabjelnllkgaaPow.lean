/- What is proved here: a contract of mont.Pow: a power modulo a modulus; everything else is refused. -/
import Derived.Test.YtodabjelnllkgaaMontFns
import Derived.Test.YtodabjelnllkgaaBitsDown
import Derived.Deep.Cut
import Derived.Deep.CutRange
import Derived.Deep.RegionHeld3
namespace Go.Proofs.Ytodabjelnllkgaa
open Go.RowKit Go.Shelf

attribute [local go_sem] Oper.semAt_some

theorem Own.keep {X Y : World} {g : Nat} {xs : List Nat} (h : Own X g xs) (k : Below X.heap.size X Y) : Own Y g xs := h.below h.lt k

theorem but_refl (w : World) (r : Option Nat) : w.grownBy w r := ⟨rfl, rfl, rfl, Nat.le_refl _, fun _ _ _ => rfl⟩

theorem but_then {w w1 w2 : World} {r r' : Option Nat} (h : w.grownBy w1 r) (k : w1.grownBy w2 r') (hne : ∀ i, i < w.heap.size → some i ≠ r') : w.grownBy w2 r :=
  ⟨k.os.trans h.os, k.tape.trans h.tape, k.output.trans h.output, Nat.le_trans h.size k.size, fun i hi hr => (k.block i (Nat.lt_of_lt_of_le hi h.size) (hne i hi)).trans (h.block i hi hr)⟩

theorem but_same {w w1 w2 : World} {r : Option Nat} (h : w.grownBy w1 r) (k : w1.grownBy w2 r) : w.grownBy w2 r :=
  ⟨k.os.trans h.os, k.tape.trans h.tape, k.output.trans h.output, Nat.le_trans h.size k.size, fun i hi hr => (k.block i (Nat.lt_of_lt_of_le hi h.size) hr).trans (h.block i hi hr)⟩
end Go.Proofs.Ytodabjelnllkgaa

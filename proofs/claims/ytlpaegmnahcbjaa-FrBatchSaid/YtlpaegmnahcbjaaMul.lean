/- What is proved here: contracts of nat.addTimes and nat.Mul: the product of two numbers (of at most sixteen limbs each). -/
import Derived.Test.YtlpaegmnahcbjaaMulAdd
import Derived.Test.YtlpaegmnahcbjaaAdd
import Derived.StillTailTactics
import Derived.Deep.RegionLaw
import Derived.Deep.RegionWith
namespace Go.Proofs.Ytlpaegmnahcbjaa
open Go.RowKit

/-- What nat.addTimes leaves. -/
def AddsTimes (xs : List Nat) (i0 x Y n g : Nat) (w : World) (e : Ending) (w' : World) : Prop :=
  ∃ c zs, e = .returned (.int .u64 ((c : Nat) : Int)) ∧ Adding xs i0 x Y n c zs ∧ Own w' g zs ∧ Below g w w'
end Go.Proofs.Ytlpaegmnahcbjaa

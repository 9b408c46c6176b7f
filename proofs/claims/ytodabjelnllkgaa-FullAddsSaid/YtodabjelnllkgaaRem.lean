/- What is proved here: a contract of nat.Rem: what a number leaves, divided by another one, or that 0 is refused. -/
import Derived.Test.YtodabjelnllkgaaDivide
import Derived.Test.YtodabjelnllkgaaGet
import Derived.Laws.CopyOwn
namespace Go.Proofs.Ytodabjelnllkgaa
open Go.RowKit

theorem Try.sizeU : (Try.prog.info? 22).map (·.size) = some 1 := by kernel_rfl
end Go.Proofs.Ytodabjelnllkgaa

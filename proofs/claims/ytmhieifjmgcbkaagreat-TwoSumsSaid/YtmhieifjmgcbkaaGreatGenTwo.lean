/- What is proved here: r times the generator of the second curve is at infinity. -/
import Derived.Test.YtmhieifjmgcbkaaGreatGenOne
namespace Go.Proofs.YtmhieifjmgcbkaaGreat
open Go.RowKit Cv

/-- 4 + 4 u. -/
def b2 : Zq := fq 4 4
theorem b2_ne : b2 ≠ 0 := fun h => four_ne (congrArg Zq.re h)
instance : DecidableEq Zq := fun x y => decidable_of_iff (x.re = y.re ∧ x.im = y.im) ⟨fun h => Zq.ext' h.1 h.2, fun h => by rw [h]; exact ⟨rfl, rfl⟩⟩
/-- The second curve. -/
def C2 : Cu Zq b2 := ⟨FdQ, b2_ne⟩
abbrev E2 : Type := EP b2
end Go.Proofs.YtmhieifjmgcbkaaGreat

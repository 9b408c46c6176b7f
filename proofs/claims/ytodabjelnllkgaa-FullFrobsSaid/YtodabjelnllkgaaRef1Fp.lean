/- What is proved here: contracts of the reference's P, Less, minus and plus (layer 4). -/
import Derived.Test.YtodabjelnllkgaaNumFp
import Derived.Test.YtodabjelnllkgaaNum
import Derived.Test.YtodabjelnllkgaaOwn
import Derived.Test.YtodabjelnllkgaaCmp
import Derived.WalkSmall
import Derived.Test.YtodabjelnllkgaaFn1Fp
import Derived.Deep.RegionHeld3
namespace Go.Proofs.Ytodabjelnllkgaa
open Go.RowKit

theorem r4P_v (w : World) : Calls Try.prog 22 #[] w (Is (fpV pN) w) := by
  rw [fpM_lit]
  go_enter Try.func22, Try.ntmps22
  go_wp2
  refine bodyPost_ret (v := .agg #[.int .u64 13402431016077863595, .int .u64 2210141511517208575, .int .u64 7435674573564081700, .int .u64 7239337960414712511, .int .u64 5412103778470702295, .int .u64 1873798617647539866]) (by simp [results, Try.results22, go_sem]) rfl ⟨rfl, below_alloc w _⟩
end Go.Proofs.Ytodabjelnllkgaa

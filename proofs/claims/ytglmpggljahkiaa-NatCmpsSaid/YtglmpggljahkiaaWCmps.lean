/- What is proved here: the law NatCmps answers true at any two rows of limbs, and nothing that was in memory changes. -/
import Derived.Test.YtglmpggljahkiaaCmp
import Derived.Test.YtglmpggljahkiaaBits
import Derived.Test.YtglmpggljahkiaaAlive
namespace Go.Proofs.Ytglmpggljahkiaa
open Go.RowKit

set_option maxHeartbeats 400000 in
theorem natCmps_any (a : Option Addr) (n c : Nat) (xs : List Nat) (a' : Option Addr) (n' c' : Nat) (ys : List Nat) (w : World) (hn : n ≤ c) (hm : c ≤ maxLen) (hn' : n' ≤ c') (hm' : c' ≤ maxLen) (hv : View w a n xs) (hv' : View w a' n' ys) :
    Calls Try.prog 3 #[.slice a n c, .slice a' n' c'] w fun e w' => e = .returned (.bool true) ∧ Below w.heap.size w w' := by
  go_enter Try.func3, Try.ntmps3
  go_wp2_with fail
  refine (alive_any _).mono ?_
  rintro e w1 ⟨rfl, hb⟩
  have u1 := hv.below (Nat.le_refl _) hb
  have u2 := hv'.below (Nat.le_refl _) hb
  have HB := Lib.hid hb
  clear hb hv hv'
  go_wp2_with fail
  refine (cmp_any _ _ _ xs _ _ _ ys _ hn hm hn' hm' u1 u2).mono ?_
  rintro e w' ⟨rfl, rfl⟩
  go_wp2_with fail
  refine (refCmp_any _ _ _ xs _ _ _ ys _ hn hm hn' hm' u1 u2).mono ?_
  rintro e w' ⟨rfl, rfl⟩
  go_wp2_with fail
  refine (bits_any _ _ _ xs _ hn hm u1).mono ?_
  rintro e w' ⟨rfl, rfl⟩
  go_wp2_with fail
  refine (refBits_any _ _ _ xs _ hn hm u1).mono ?_
  rintro e w' ⟨rfl, rfl⟩
  go_wp2
  go_ret
  exact ⟨rfl, HB.out⟩
end Go.Proofs.Ytglmpggljahkiaa

/- What is proved here: the law NatMuls answers true at any two rows of limbs, and nothing that was in memory changes. -/
import Derived.Test.YtglmpggljahkiaaMul
import Derived.Test.YtglmpggljahkiaaRefMul
import Derived.Test.YtglmpggljahkiaaRefAdd
import Derived.Test.YtglmpggljahkiaaAlive
namespace Go.Proofs.Ytglmpggljahkiaa
open Go.RowKit

set_option maxHeartbeats 1000000 in
theorem natMuls_any (a : Option Addr) (n c : Nat) (xs : List Nat) (a' : Option Addr) (n' c' : Nat) (ys : List Nat) (w : World) (hn : n ≤ c) (hm : c ≤ maxLen) (hn' : n' ≤ c') (hm' : c' ≤ maxLen) (hv : View w a n xs) (hv' : View w a' n' ys) :
    Calls Try.prog 5 #[.slice a n c, .slice a' n' c'] w fun e w' => e = .returned (.bool true) ∧ Below w.heap.size w w' := by
  have hK : min n 16 + min n' 16 ≤ 32 := by omega
  go_enter Try.func5, Try.ntmps5
  go_wp2_with fail
  refine (alive_any _).mono ?_
  rintro e w0 ⟨rfl, hb0⟩
  have u1 := hv.below (Nat.le_refl _) hb0
  have u2 := hv'.below (Nat.le_refl _) hb0
  have HB0 := Lib.hid hb0
  clear hb0 hv hv'
  go_wp2_with fail
  refine (mul_any _ _ _ xs _ _ _ ys _ hn hm hn' hm' u1 u2).mono ?_
  rintro e w1 ⟨g1, rfl, o1, _, hb1⟩
  replace u1 := u1.below (Nat.le_refl _) hb1
  replace u2 := u2.below (Nat.le_refl _) hb1
  have H1 := Lib.hid o1.vrow
  have HB1 := Lib.hid (below_then HB0.out hb1)
  clear hb1 o1 HB0
  go_wp2_with fail
  refine (refMul_any _ _ _ xs _ _ _ ys _ hn hm hn' hm' u1 u2).mono ?_
  rintro e w2 ⟨g2, rfl, o2, _, hb2⟩
  have V2 := o2.vrow
  have V1 := H1.out.below (Nat.le_refl _) hb2
  have HB2 := Lib.hid (below_then HB1.out hb2)
  clear hb2 o2 HB1 u1 u2 hn hm hn' hm'
  generalize min n 16 + min n' 16 = K at *
  go_wp2_with fail
  refine (same_true _ _ _ _ _ _ _ _ (by unfold maxLen; omega) V1 V2).mono ?_
  rintro e w3 ⟨rfl, hb3⟩
  have HB3 := Lib.hid (below_then HB2.out hb3)
  clear hb3 HB2 V1 V2
  go_wp2
  go_ret
  exact ⟨rfl, HB3.out⟩
end Go.Proofs.Ytglmpggljahkiaa

/- What is proved here: the law NatAdds answers true at any two rows of limbs, and nothing that was in memory changes. -/
import Derived.Test.YtglmpggljahkiaaRefAdd
import Derived.Test.YtglmpggljahkiaaAlive
namespace Go.Proofs.Ytglmpggljahkiaa
open Go.RowKit

set_option maxHeartbeats 1000000 in
theorem natAdds_any (a : Option Addr) (n c : Nat) (xs : List Nat) (a' : Option Addr) (n' c' : Nat) (ys : List Nat) (w : World) (hn : n ≤ c) (hm : c ≤ maxLen) (hn' : n' ≤ c') (hm' : c' ≤ maxLen) (hv : View w a n xs) (hv' : View w a' n' ys) :
    Calls Try.prog 4 #[.slice a n c, .slice a' n' c'] w fun e w' => e = .returned (.bool true) ∧ Below w.heap.size w w' := by
  have hK : max (min n 16) (min n' 16) ≤ 16 := by omega
  go_enter Try.func4, Try.ntmps4
  go_wp2_with fail
  refine (add_any _ _ _ xs _ _ _ ys _ hn hm hn' hm' hv hv').mono ?_
  rintro e w1 ⟨g1, rfl, o1, _, hb1⟩
  have u1 := hv.below (Nat.le_refl _) hb1
  have u2 := hv'.below (Nat.le_refl _) hb1
  have H1 := Lib.hid o1.vrow
  have HB1 := Lib.hid hb1
  clear hb1 o1 hv hv'
  go_wp2_with fail
  refine (refAdd_any _ _ _ xs _ _ _ ys _ hn hm hn' hm' u1 u2).mono ?_
  rintro e w2 ⟨g2, rfl, o2, _, hb2⟩
  replace u1 := u1.below (Nat.le_refl _) hb2
  replace u2 := u2.below (Nat.le_refl _) hb2
  have H2 := Lib.hid o2.vrow
  replace H1 := Lib.hid (H1.out.below (Nat.le_refl _) hb2)
  have HB2 := Lib.hid (below_then HB1.out hb2)
  clear hb2 o2 HB1
  go_wp2_with fail
  refine (sub_any _ _ _ xs _ _ _ ys _ hn hm hn' hm' u1 u2).mono ?_
  rintro e w3 ⟨g3, rfl, o3, _, hb3⟩
  replace u1 := u1.below (Nat.le_refl _) hb3
  replace u2 := u2.below (Nat.le_refl _) hb3
  have H3 := Lib.hid o3.vrow
  replace H1 := Lib.hid (H1.out.below (Nat.le_refl _) hb3)
  replace H2 := Lib.hid (H2.out.below (Nat.le_refl _) hb3)
  have HB3 := Lib.hid (below_then HB2.out hb3)
  clear hb3 o3 HB2
  go_wp2_with fail
  refine (refSub_any _ _ _ xs _ _ _ ys _ hn hm hn' hm' u1 u2).mono ?_
  rintro e w4 ⟨g4, rfl, o4, _, hb4⟩
  have H4 := Lib.hid o4.vrow
  replace H1 := Lib.hid (H1.out.below (Nat.le_refl _) hb4)
  replace H2 := Lib.hid (H2.out.below (Nat.le_refl _) hb4)
  replace H3 := Lib.hid (H3.out.below (Nat.le_refl _) hb4)
  have HB4 := Lib.hid (below_then HB3.out hb4)
  clear hb4 o4 HB3 u1 u2 hn hm hn' hm'
  generalize max (min n 16) (min n' 16) = K at *
  go_wp2_with fail
  refine (alive_any _).mono ?_
  rintro e w5 ⟨rfl, hb5⟩
  have V1 := H1.out.below (Nat.le_refl _) hb5
  have V2 := H2.out.below (Nat.le_refl _) hb5
  replace H3 := Lib.hid (H3.out.below (Nat.le_refl _) hb5)
  replace H4 := Lib.hid (H4.out.below (Nat.le_refl _) hb5)
  have HB5 := Lib.hid (below_then HB4.out hb5)
  clear hb5 HB4 H1 H2
  go_wp2_with fail
  refine (same_true _ _ _ _ _ _ _ _ (by unfold maxLen; omega) V1 V2).mono ?_
  rintro e w6 ⟨rfl, hb6⟩
  have V3 := H3.out.below (Nat.le_refl _) hb6
  have V4 := H4.out.below (Nat.le_refl _) hb6
  have HB6 := Lib.hid (below_then HB5.out hb6)
  clear hb6 HB5 V1 V2 H3 H4
  go_wp2_with fail
  refine (same_true _ _ _ _ _ _ _ _ (by unfold maxLen; omega) V3 V4).mono ?_
  rintro e w7 ⟨rfl, hb7⟩
  have HB7 := Lib.hid (below_then HB6.out hb7)
  clear hb7 HB6 V3 V4
  go_wp2
  go_ret
  exact ⟨rfl, HB7.out⟩
end Go.Proofs.Ytglmpggljahkiaa

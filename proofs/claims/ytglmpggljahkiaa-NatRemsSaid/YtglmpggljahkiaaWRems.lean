/- What is proved here: the law NatRems answers true at any two rows of limbs, and nothing that was in memory changes. -/
import Derived.Test.YtglmpggljahkiaaRem
import Derived.Test.YtglmpggljahkiaaRefRem
import Derived.Test.YtglmpggljahkiaaRefAdd
import Derived.Test.YtglmpggljahkiaaAlive
namespace Go.Proofs.Ytglmpggljahkiaa
open Go.RowKit

set_option maxHeartbeats 2000000 in
theorem natRems_any (a : Option Addr) (n c : Nat) (xs : List Nat) (a' : Option Addr) (n' c' : Nat) (ys : List Nat) (w0 : World) (hn : n ≤ c) (hm : c ≤ maxLen) (hn' : n' ≤ c') (hm' : c' ≤ maxLen) (VA : View w0 a n xs) (VB : View w0 a' n' ys) :
    Calls Try.prog 6 #[.slice a n c, .slice a' n' c'] w0 fun e w' => e = .returned (.bool true) ∧ Below w0.heap.size w0 w' := by
  have HB0 := Lib.hid (Below.refl w0.heap.size w0)
  have bK : min n' 16 ≤ 16 := by omega
  by_cases hz : val (ys.take 16) = 0
  · have HZ := Lib.hid hz
    have NB := Lib.hid (show nbits (val (ys.take 16)) = 0 by rw [hz]; rfl)
    clear hz
    go_enter Try.func6, Try.ntmps6
    go_wp2_with fail
    refine (rem_bad _ _ _ _ _ _ ys _ hn hm hn' hm' VB HZ.out).mono ?_
    rintro e w' ⟨rfl, rfl⟩
    go_wp2_with fail
    refine (refBits_any _ _ _ ys _ hn' hm' VB).mono ?_
    rintro e w' ⟨rfl, rfl⟩
    rw [NB.out]
    go_wp2_with fail
    refine (alive_any _).mono ?_
    rintro e w1 ⟨rfl, hb0⟩
    replace VA := VA.below (Nat.le_refl _) hb0
    replace VB := VB.below (Nat.le_refl _) hb0
    have HB1 := Lib.hid (below_then HB0.out hb0)
    clear hb0 HB0
    go_wp2
    go_ret
    exact ⟨rfl, HB1.out⟩
  · have HZ := Lib.hid hz
    have NB : Hid (((nbits (val (ys.take 16)) : Int) == 0) = false) := by
      have := nbits_pos hz
      show ((nbits (val (ys.take 16)) : Int) == 0) = false
      simp; omega
    clear hz
    go_enter Try.func6, Try.ntmps6
    go_wp2_with fail
    refine (rem_any _ _ _ xs _ _ _ ys _ hn hm hn' hm' VA VB HZ.out).mono ?_
    rintro e w1 ⟨g0, rfl, o0, _, hb0⟩
    replace VA := VA.below (Nat.le_refl _) hb0
    replace VB := VB.below (Nat.le_refl _) hb0
    have HB1 := Lib.hid (below_then HB0.out hb0)
    have VR := o0.vrow
    clear hb0 HB0 o0
    go_wp2_with fail
    refine (refBits_any _ _ _ ys _ hn' hm' VB).mono ?_
    rintro e w' ⟨rfl, rfl⟩
    have nb := NB.out
    generalize nbits (val (ys.take 16)) = nbt at *
    clear NB
    go_wp2_with fail
    refine (alive_any _).mono ?_
    rintro e w2 ⟨rfl, hb1⟩
    replace VA := VA.below (Nat.le_refl _) hb1
    replace VB := VB.below (Nat.le_refl _) hb1
    replace VR := VR.below (Nat.le_refl _) hb1
    have HB2 := Lib.hid (below_then HB1.out hb1)
    clear hb1 HB1
    go_wp2_with fail
    refine (refRem_any _ _ _ xs _ _ _ ys _ hn hm hn' hm' VA VB HZ.out).mono ?_
    rintro e w3 ⟨adr, cpr, rfl, VQ, hb2⟩
    replace VA := VA.below (Nat.le_refl _) hb2
    replace VB := VB.below (Nat.le_refl _) hb2
    replace VR := VR.below (Nat.le_refl _) hb2
    have HB3 := Lib.hid (below_then HB2.out hb2)
    clear hb2 HB2
    go_wp2_with fail
    refine (same_true _ _ _ _ _ _ _ _ (by unfold maxLen; omega) VR VQ).mono ?_
    rintro e w4 ⟨rfl, hb3⟩
    replace VA := VA.below (Nat.le_refl _) hb3
    replace VB := VB.below (Nat.le_refl _) hb3
    replace VR := VR.below (Nat.le_refl _) hb3
    have HB4 := Lib.hid (below_then HB3.out hb3)
    clear hb3 HB3
    go_wp2
    go_ret
    exact ⟨rfl, HB4.out⟩
end Go.Proofs.Ytglmpggljahkiaa

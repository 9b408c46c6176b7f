/- What is proved here: the law NatBytes answers true at any row of limbs and any text, and nothing that was in memory changes. -/
import Derived.Test.YtglmpggljahkiaaRefGet
import Derived.Test.YtglmpggljahkiaaPut
import Derived.Test.YtglmpggljahkiaaRefAdd
import Derived.Test.YtglmpggljahkiaaAlive
namespace Go.Proofs.Ytglmpggljahkiaa
open Go.RowKit

set_option maxHeartbeats 2000000 in
theorem natBytes_any (a : Option Addr) (n c : Nat) (xs : List Nat) (s : ByteArray) (w0 : World) (hn : n ≤ c) (hm : c ≤ maxLen) (hs : s.size ≤ maxLen) (VA : View w0 a n xs) :
    Calls Try.prog 7 #[.slice a n c, .string s] w0 fun e w' => e = .returned (.bool true) ∧ Below w0.heap.size w0 w' := by
  have HB0 := Lib.hid (Below.refl w0.heap.size w0)
  by_cases hsz : s.size % 8 ≠ 0 ∨ 128 < s.size
  · have HZ := Lib.hid hsz
    clear hsz
    go_enter Try.func7, Try.ntmps7
    go_wp2_with fail
    refine (get_bad _ _ hs HZ.out).mono ?_
    rintro e w' ⟨rfl, rfl⟩
    go_wp2_with fail
    refine (refGet_bad _ _ hs HZ.out).mono ?_
    rintro e w' ⟨rfl, rfl⟩
    go_wp2_with fail
    refine (alive_any _).mono ?_
    rintro e w1 ⟨rfl, hb0⟩
    replace VA := VA.below (Nat.le_refl _) hb0
    have HB1 := Lib.hid (below_then HB0.out hb0)
    clear hb0 HB0
    go_wp2_with fail
    refine (put_any _ _ _ xs _ hn hm VA).mono ?_
    rintro e w2 ⟨rfl, hb1⟩
    replace VA := VA.below (Nat.le_refl _) hb1
    have HB2 := Lib.hid (below_then HB1.out hb1)
    clear hb1 HB1
    go_wp2_with fail
    refine (refPut_any _ _ _ xs _ hn hm VA).mono ?_
    rintro e w3 ⟨rfl, hb2⟩
    replace VA := VA.below (Nat.le_refl _) hb2
    have HB3 := Lib.hid (below_then HB2.out hb2)
    clear hb2 HB2
    have vn : View w3 none 0 [] := ⟨rfl, fun y hy => (by cases hy), fun i hi => absurd hi (by omega)⟩
    generalize be (8 * min n 16) (val (xs.take 16)) = t at *
    go_wp2_with fail
    refine (same_true _ _ _ [] _ _ _ _ (Nat.zero_le _) vn vn).mono ?_
    rintro e w4 ⟨rfl, hb3⟩
    replace VA := VA.below (Nat.le_refl _) hb3
    have HB4 := Lib.hid (below_then HB3.out hb3)
    clear hb3 HB3
    go_wp2
    go_ret
    exact ⟨rfl, HB4.out⟩
  · obtain ⟨m, hm8, hm16⟩ : ∃ m, s.size = 8 * m ∧ m ≤ 16 := ⟨s.size / 8, by omega, by omega⟩
    have HZ := Lib.hid hm8
    clear hsz hm8
    go_enter Try.func7, Try.ntmps7
    go_wp2_with fail
    refine (get_any _ m _ HZ.out hm16).mono ?_
    rintro e w1 ⟨g0, rfl, o0, _, hb0⟩
    replace VA := VA.below (Nat.le_refl _) hb0
    have HB1 := Lib.hid (below_then HB0.out hb0)
    have V1 := o0.vrow
    clear hb0 HB0 o0
    go_wp2_with fail
    refine (refGet_any _ m _ HZ.out hm16).mono ?_
    rintro e w2 ⟨g1, rfl, o1, _, hb1⟩
    replace VA := VA.below (Nat.le_refl _) hb1
    replace V1 := V1.below (Nat.le_refl _) hb1
    have HB2 := Lib.hid (below_then HB1.out hb1)
    have V2 := o1.vrow
    clear hb1 HB1 o1
    go_wp2_with fail
    refine (alive_any _).mono ?_
    rintro e w3 ⟨rfl, hb2⟩
    replace VA := VA.below (Nat.le_refl _) hb2
    replace V1 := V1.below (Nat.le_refl _) hb2
    replace V2 := V2.below (Nat.le_refl _) hb2
    have HB3 := Lib.hid (below_then HB2.out hb2)
    clear hb2 HB2
    go_wp2_with fail
    refine (put_any _ _ _ xs _ hn hm VA).mono ?_
    rintro e w4 ⟨rfl, hb3⟩
    replace VA := VA.below (Nat.le_refl _) hb3
    replace V1 := V1.below (Nat.le_refl _) hb3
    replace V2 := V2.below (Nat.le_refl _) hb3
    have HB4 := Lib.hid (below_then HB3.out hb3)
    clear hb3 HB3
    go_wp2_with fail
    refine (refPut_any _ _ _ xs _ hn hm VA).mono ?_
    rintro e w5 ⟨rfl, hb4⟩
    replace VA := VA.below (Nat.le_refl _) hb4
    replace V1 := V1.below (Nat.le_refl _) hb4
    replace V2 := V2.below (Nat.le_refl _) hb4
    have HB5 := Lib.hid (below_then HB4.out hb4)
    clear hb4 HB4
    generalize be (8 * min n 16) (val (xs.take 16)) = t at *
    go_wp2_with fail
    refine (same_true _ _ _ _ _ _ _ _ (by unfold maxLen; omega) V1 V2).mono ?_
    rintro e w6 ⟨rfl, hb5⟩
    replace VA := VA.below (Nat.le_refl _) hb5
    replace V1 := V1.below (Nat.le_refl _) hb5
    replace V2 := V2.below (Nat.le_refl _) hb5
    have HB6 := Lib.hid (below_then HB5.out hb5)
    clear hb5 HB5
    go_wp2
    go_ret
    exact ⟨rfl, HB6.out⟩
end Go.Proofs.Ytglmpggljahkiaa

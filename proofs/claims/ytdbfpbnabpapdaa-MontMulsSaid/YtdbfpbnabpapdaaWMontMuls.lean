/- What is proved here: the laws MontMuls and MontMoves answer true. -/
import Derived.Test.YtdbfpbnabpapdaaMontFns
import Derived.Test.YtdbfpbnabpapdaaRefMoves
namespace Go.Proofs.Ytdbfpbnabpapdaa
open Go.RowKit

set_option maxHeartbeats 2000000 in
theorem montMuls_any (a : Option Addr) (n c : Nat) (xs : List Nat) (a' : Option Addr) (n' c' : Nat) (ys : List Nat) (am : Option Addr) (nm cm : Nat) (ms : List Nat) (w : World) (hn : n ≤ c) (hm : c ≤ maxLen) (hn' : n' ≤ c') (hm' : c' ≤ maxLen) (hnm : nm ≤ cm) (hmm : cm ≤ maxLen)
    (hv : View w a n xs) (hv' : View w a' n' ys) (hvm : View w am nm ms) :
    Calls Try.prog 4 #[.slice a n c, .slice a' n' c', .slice am nm cm] w fun e w' => e = .returned (.bool true) ∧ Below w.heap.size w w' := by
  by_cases hg : IsMod nm ms ∧ IsElem n xs nm ms ∧ IsElem n' ys nm ms
  · have HG := Lib.hid hg
    obtain ⟨hM, ⟨rfl, hx⟩, ⟨rfl, hy⟩⟩ := hg
    have HM := Lib.hid hM
    have h8 := hM.2.1
    clear hM
    go_enter Try.func4, Try.ntmps4
    go_wp2_with fail
    refine (montMul_any _ c xs _ c' ys _ _ cm ms _ hn hm hn' hm' hnm hmm hv hv' hvm HM.out hx hy).mono ?_
    rintro e w1 ⟨g1, rfl, o1, hg1, hb1⟩
    have O1 := Lib.hid o1
    have HB1 := Lib.hid hb1
    have u1 := Lib.hid (hv.below (Nat.le_refl _) hb1)
    have u2 := Lib.hid (hv'.below (Nat.le_refl _) hb1)
    have u3 := Lib.hid (hvm.below (Nat.le_refl _) hb1)
    clear o1 hb1 hg1
    go_wp2_with fail
    refine (refCheck_any _ _ c xs _ _ c' ys _ _ cm ms _ hnm hmm u1.out u2.out u3.out HG.out).mono ?_
    rintro e w2 ⟨rfl, hb2⟩
    have O2 := Lib.hid (O1.out.below O1.out.lt hb2)
    have HB2 := Lib.hid (below_then HB1.out hb2)
    clear hb2 O1 u1 u2 u3 HB1
    go_wp2_with fail
    refine (alive2_any _).mono ?_
    rintro e w' ⟨rfl, rfl⟩
    have u1 := Lib.hid (hv.below (Nat.le_refl _) HB2.out)
    have u2 := Lib.hid (hv'.below (Nat.le_refl _) HB2.out)
    have u3 := Lib.hid (hvm.below (Nat.le_refl _) HB2.out)
    go_wp2_with fail
    refine (refMul2_any _ _ c xs _ c' ys _ cm ms _ hn hm hn' hm' hnm hmm u1.out u2.out u3.out HM.out hy).mono ?_
    rintro e w3 ⟨g3, rfl, o3, hg3, hb3⟩
    have O3 := Lib.hid o3
    have O4 := Lib.hid (O2.out.below O2.out.lt hb3)
    have HB3 := Lib.hid (below_then HB2.out hb3)
    clear o3 hg3 hb3 O2 HB2 u1 u2 u3
    go_wp2_with fail
    refine (same2_ok _ _ _ _ _ _ _ _ (by unfold maxLen; omega) O4.out.vrow O3.out.vrow).mono ?_
    rintro e w4 ⟨rfl, hb4⟩
    have HB4 := Lib.hid (below_then HB3.out hb4)
    clear hb4
    go_wp2
    go_ret
    exact ⟨rfl, HB4.out⟩
  · have HG := Lib.hid hg
    clear hg
    go_enter Try.func4, Try.ntmps4
    go_wp2_with fail
    refine (montMul_bad _ n c xs _ n' c' ys _ nm cm ms _ hn hm hn' hm' hnm hmm hv hv' hvm HG.out).mono ?_
    rintro e w' ⟨rfl, rfl⟩
    go_wp2_with fail
    refine (refCheck_bad _ n c xs _ n' c' ys _ nm cm ms _ hnm hmm hv hv' hvm HG.out).mono ?_
    rintro e w2 ⟨rfl, hb2⟩
    have HB2 := Lib.hid hb2
    clear hb2
    go_wp2_with fail
    refine (alive2_any _).mono ?_
    rintro e w' ⟨rfl, rfl⟩
    go_wp2_with fail
    refine (same2_bad _ _).mono ?_
    rintro e w' ⟨rfl, rfl⟩
    go_wp2
    go_ret
    exact ⟨rfl, HB2.out⟩

set_option maxHeartbeats 2000000 in
theorem montMoves_any (a : Option Addr) (n c : Nat) (xs : List Nat) (am : Option Addr) (nm cm : Nat) (ms : List Nat) (w : World) (hn : n ≤ c) (hm : c ≤ maxLen) (hnm : nm ≤ cm) (hmm : cm ≤ maxLen)
    (hv : View w a n xs) (hvm : View w am nm ms) :
    Calls Try.prog 5 #[.slice a n c, .slice am nm cm] w fun e w' => e = .returned (.bool true) ∧ Below w.heap.size w w' := by
  by_cases hg : IsMod nm ms ∧ IsElem n xs nm ms
  · have HG : Hid (IsMod nm ms ∧ IsElem n xs nm ms ∧ IsElem n xs nm ms) := ⟨hg.1, hg.2, hg.2⟩
    obtain ⟨hM, ⟨rfl, hx⟩⟩ := hg
    have HM := Lib.hid hM
    have h8 := hM.2.1
    clear hM
    go_enter Try.func5, Try.ntmps5
    go_wp2_with fail
    refine (montInto_any _ c xs _ _ cm ms _ hn hm hnm hmm hv hvm HM.out hx).mono ?_
    rintro e w1 ⟨g1, rfl, o1, hg1, hb1⟩
    have OA := Lib.hid o1
    have HB := Lib.hid hb1
    have u1 := Lib.hid (hv.below (Nat.le_refl _) hb1)
    have u3 := Lib.hid (hvm.below (Nat.le_refl _) hb1)
    clear o1 hb1 hg1
    go_wp2_with fail
    refine (montFrom_any _ c xs _ _ cm ms _ hn hm hnm hmm u1.out u3.out HM.out hx).mono ?_
    rintro e w2 ⟨g2, rfl, o2, hg2, hb2⟩
    have OB := Lib.hid o2
    have OA2 := Lib.hid (OA.out.below OA.out.lt hb2)
    have HB2 := Lib.hid (below_then HB.out hb2)
    clear o2 hb2 hg2 OA HB u1 u3
    have u1 := Lib.hid (hv.below (Nat.le_refl _) HB2.out)
    have u3 := Lib.hid (hvm.below (Nat.le_refl _) HB2.out)
    go_wp2_with fail
    refine (refCheck_any _ _ c xs _ _ c xs _ _ cm ms _ hnm hmm u1.out u1.out u3.out HG.out).mono ?_
    rintro e w3 ⟨rfl, hb3⟩
    have OA3 := Lib.hid (OA2.out.below OA2.out.lt hb3)
    have OB3 := Lib.hid (OB.out.below OB.out.lt hb3)
    have HB3 := Lib.hid (below_then HB2.out hb3)
    clear hb3 OA2 OB HB2 u1 u3
    have u1 := Lib.hid (hv.below (Nat.le_refl _) HB3.out)
    have u3 := Lib.hid (hvm.below (Nat.le_refl _) HB3.out)
    go_wp2_with fail
    refine (alive2_any _).mono ?_
    rintro e w' ⟨rfl, rfl⟩
    go_wp2_with fail
    refine (refInto_any _ _ c xs _ cm ms _ hn hm hnm hmm u1.out u3.out HM.out hx).mono ?_
    rintro e w4 ⟨g4, rfl, o4, hg4, hb4⟩
    have OC := Lib.hid o4
    have OA4 := Lib.hid (OA3.out.below OA3.out.lt hb4)
    have OB4 := Lib.hid (OB3.out.below OB3.out.lt hb4)
    have HB4 := Lib.hid (below_then HB3.out hb4)
    clear o4 hg4 hb4 OA3 OB3 HB3 u1 u3
    go_wp2_with fail
    refine (same2_ok _ _ _ _ _ _ _ _ (by unfold maxLen; omega) OA4.out.vrow OC.out.vrow).mono ?_
    rintro e w5 ⟨rfl, hb5⟩
    have OB5 := Lib.hid (OB4.out.below OB4.out.lt hb5)
    have HB5 := Lib.hid (below_then HB4.out hb5)
    clear hb5 OA4 OB4 HB4 OC
    have u1 := Lib.hid (hv.below (Nat.le_refl _) HB5.out)
    have u3 := Lib.hid (hvm.below (Nat.le_refl _) HB5.out)
    go_wp2_with fail
    refine (refFrom_any _ _ c xs _ cm ms _ hn hm hnm hmm u1.out u3.out HM.out hx).mono ?_
    rintro e w6 ⟨g6, rfl, o6, hg6, hb6⟩
    have OD := Lib.hid o6
    have OB6 := Lib.hid (OB5.out.below OB5.out.lt hb6)
    have HB6 := Lib.hid (below_then HB5.out hb6)
    clear o6 hg6 hb6 OB5 HB5 u1 u3
    go_wp2_with fail
    refine (same2_ok _ _ _ _ _ _ _ _ (by unfold maxLen; omega) OB6.out.vrow OD.out.vrow).mono ?_
    rintro e w7 ⟨rfl, hb7⟩
    have HB7 := Lib.hid (below_then HB6.out hb7)
    clear hb7
    go_wp2
    go_ret
    exact ⟨rfl, HB7.out⟩
  · have HG : Hid (¬ (IsMod nm ms ∧ IsElem n xs nm ms ∧ IsElem n xs nm ms)) := fun h => hg ⟨h.1, h.2.1⟩
    have HG0 := Lib.hid hg
    clear hg
    go_enter Try.func5, Try.ntmps5
    go_wp2_with fail
    refine (montInto_bad _ n c xs _ nm cm ms _ hn hm hnm hmm hv hvm HG0.out).mono ?_
    rintro e w' ⟨rfl, rfl⟩
    go_wp2_with fail
    refine (montFrom_bad _ n c xs _ nm cm ms _ hn hm hnm hmm hv hvm HG0.out).mono ?_
    rintro e w' ⟨rfl, rfl⟩
    go_wp2_with fail
    refine (refCheck_bad _ n c xs _ n c xs _ nm cm ms _ hnm hmm hv hv hvm HG.out).mono ?_
    rintro e w2 ⟨rfl, hb2⟩
    have HB2 := Lib.hid hb2
    clear hb2
    go_wp2_with fail
    refine (alive2_any _).mono ?_
    rintro e w' ⟨rfl, rfl⟩
    go_wp2_with fail
    refine (same2_bad _ _).mono ?_
    rintro e w' ⟨rfl, rfl⟩
    go_wp2_with fail
    refine (same2_bad _ _).mono ?_
    rintro e w' ⟨rfl, rfl⟩
    go_wp2
    go_ret
    exact ⟨rfl, HB2.out⟩
end Go.Proofs.Ytdbfpbnabpapdaa

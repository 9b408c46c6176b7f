/- What is proved here: the law MontPows answers true: any power of any element is as the document says, or refused. -/
import Derived.Test.YtdbfpbnabpapdaaPowBad
import Derived.Test.YtdbfpbnabpapdaaRefMoves
namespace Go.Proofs.Ytdbfpbnabpapdaa
open Go.RowKit

set_option maxHeartbeats 4000000 in
theorem montPows_any (a : Option Addr) (n c : Nat) (xs : List Nat) (ae : Option Addr) (ne ce : Nat) (es : List Nat) (am : Option Addr) (nm cm : Nat) (ms : List Nat) (w : World) (hn : n ≤ c) (hm : c ≤ maxLen) (hne : ne ≤ ce) (hme : ce ≤ maxLen) (hnm : nm ≤ cm) (hmm : cm ≤ maxLen)
    (hv : View w a n xs) (hve : View w ae ne es) (hvm : View w am nm ms) :
    Calls Try.prog 6 #[.slice a n c, .slice ae ne ce, .slice am nm cm] w fun e w' => e = .returned (.bool true) ∧ Below w.heap.size w w' := by
  by_cases h2 : ne ≤ 2
  · have h2i : ¬ (2 : Int) < (ne : Int) := by omega
    have h16i : ¬ (16 : Int) < (ne : Int) := by omega
    by_cases hg : IsMod nm ms ∧ IsElem n xs nm ms
    · have HB0 : Hid (Below w.heap.size w w) := Below.refl _ _
      obtain ⟨hM, rfl, hx⟩ := hg
      have HM := Lib.hid hM
      have h8 := hM.2.1
      have HG : Hid (IsMod n ms ∧ IsElem n xs n ms ∧ IsElem n xs n ms) := ⟨hM, ⟨rfl, hx⟩, ⟨rfl, hx⟩⟩
      clear hM
      go_enter Try.func6, Try.ntmps6
      go_wp2_with fail
      refine (montPow_any _ c xs _ ne ce es _ _ cm ms _ hn hm hne hme (by omega) hnm hmm (hv.below (Nat.le_refl _) HB0.out) (hve.below (Nat.le_refl _) HB0.out) (hvm.below (Nat.le_refl _) HB0.out) HM.out hx).mono ?_
      rintro e w1 ⟨g1, rfl, o1, hg1, hb1⟩
      have P_1 := Lib.hid o1
      have HB1 := Lib.hid (below_then HB0.out hb1)
      clear o1 hg1 hb1 HB0
      go_wp2_with fail
      refine (refCheck_any _ _ c xs _ _ c xs _ _ cm ms _ hnm hmm (hv.below (Nat.le_refl _) HB1.out) (hv.below (Nat.le_refl _) HB1.out) (hvm.below (Nat.le_refl _) HB1.out) HG.out).mono ?_
      rintro e w2 ⟨rfl, hb2⟩
      have P_2 := Lib.hid (P_1.out.below P_1.out.lt hb2)
      have HB2 := Lib.hid (below_then HB1.out hb2)
      clear hb2 HB1 P_1
      go_wp2_with fail
      refine (alive2_any _).mono ?_
      rintro e w' ⟨rfl, rfl⟩
      go_wp2_with fail
      refine (refPow_any _ _ c xs _ ne ce es _ cm ms _ hn hm hne hme (by omega) hnm hmm (hv.below (Nat.le_refl _) HB2.out) (hve.below (Nat.le_refl _) HB2.out) (hvm.below (Nat.le_refl _) HB2.out) HM.out hx).mono ?_
      rintro e w3 ⟨g3, rfl, o3, hg3, hb3⟩
      have Q_3 := Lib.hid o3
      have P_3 := Lib.hid (P_2.out.below P_2.out.lt hb3)
      have HB3 := Lib.hid (below_then HB2.out hb3)
      clear o3 hg3 hb3 HB2 P_2
      go_wp2_with fail
      refine (same2_ok _ _ _ _ _ _ _ _ (by unfold maxLen; omega) P_3.out.vrow Q_3.out.vrow).mono ?_
      rintro e w4 ⟨rfl, hb4⟩
      have P_4 := Lib.hid (P_3.out.below P_3.out.lt hb4)
      have Q_4 := Lib.hid (Q_3.out.below Q_3.out.lt hb4)
      have HB4 := Lib.hid (below_then HB3.out hb4)
      clear hb4 HB3 P_3 Q_3
      go_wp2
      go_ret
      exact ⟨rfl, HB4.out⟩
    · have HB0 : Hid (Below w.heap.size w w) := Below.refl _ _
      have HG : Hid (¬ (IsMod nm ms ∧ IsElem n xs nm ms ∧ IsElem n xs nm ms)) := fun h => hg ⟨h.1, h.2.1⟩
      have HG0 := Lib.hid hg
      clear hg
      go_enter Try.func6, Try.ntmps6
      go_wp2_with fail
      refine (montPow_bad _ n c xs _ ne ce _ nm cm ms _ hn hm hnm hmm (hv.below (Nat.le_refl _) HB0.out) (hvm.below (Nat.le_refl _) HB0.out) (fun h => HG0.out ⟨h.1, h.2.1⟩)).mono ?_
      rintro e w1 ⟨rfl, hb1⟩
      have HB1 := Lib.hid (below_then HB0.out hb1)
      clear hb1 HB0
      go_wp2_with fail
      refine (refCheck_bad _ _ c xs _ _ c xs _ _ cm ms _ hnm hmm (hv.below (Nat.le_refl _) HB1.out) (hv.below (Nat.le_refl _) HB1.out) (hvm.below (Nat.le_refl _) HB1.out) HG.out).mono ?_
      rintro e w2 ⟨rfl, hb2⟩
      have HB2 := Lib.hid (below_then HB1.out hb2)
      clear hb2 HB1
      go_wp2_with fail
      refine (alive2_any _).mono ?_
      rintro e w' ⟨rfl, rfl⟩
      go_wp2_with fail
      refine (same2_bad _ _).mono ?_
      rintro e w' ⟨rfl, rfl⟩
      go_wp2
      go_ret
      exact ⟨rfl, HB2.out⟩
  · have h2i : (2 : Int) < (ne : Int) := by omega
    by_cases h16 : ne ≤ 16
    · have h16i : (ne : Int) ≤ 16 := by omega
      have hc2 : (2 : Int) ≤ (ce : Int) := by omega
      have hve2 := hve.take 2
      rw [show min ne 2 = 2 by omega] at hve2
      by_cases hg : IsMod nm ms ∧ IsElem n xs nm ms
      · have HB0 : Hid (Below w.heap.size w w) := Below.refl _ _
        obtain ⟨hM, rfl, hx⟩ := hg
        have HM := Lib.hid hM
        have h8 := hM.2.1
        have HG : Hid (IsMod n ms ∧ IsElem n xs n ms ∧ IsElem n xs n ms) := ⟨hM, ⟨rfl, hx⟩, ⟨rfl, hx⟩⟩
        clear hM
        go_enter Try.func6, Try.ntmps6
        go_wp2_with fail
        refine (montPow_any _ c xs _ 2 ce (es.take 2) _ _ cm ms _ hn hm (by omega) hme (by omega) hnm hmm (hv.below (Nat.le_refl _) HB0.out) (hve2.below (Nat.le_refl _) HB0.out) (hvm.below (Nat.le_refl _) HB0.out) HM.out hx).mono ?_
        rintro e w1 ⟨g1, rfl, o1, hg1, hb1⟩
        have P_1 := Lib.hid o1
        have HB1 := Lib.hid (below_then HB0.out hb1)
        clear o1 hg1 hb1 HB0
        go_wp2_with fail
        refine (refCheck_any _ _ c xs _ _ c xs _ _ cm ms _ hnm hmm (hv.below (Nat.le_refl _) HB1.out) (hv.below (Nat.le_refl _) HB1.out) (hvm.below (Nat.le_refl _) HB1.out) HG.out).mono ?_
        rintro e w2 ⟨rfl, hb2⟩
        have P_2 := Lib.hid (P_1.out.below P_1.out.lt hb2)
        have HB2 := Lib.hid (below_then HB1.out hb2)
        clear hb2 HB1 P_1
        go_wp2_with fail
        refine (alive2_any _).mono ?_
        rintro e w' ⟨rfl, rfl⟩
        go_wp2_with fail
        refine (refPow_any _ _ c xs _ 2 ce (es.take 2) _ cm ms _ hn hm (by omega) hme (by omega) hnm hmm (hv.below (Nat.le_refl _) HB2.out) (hve2.below (Nat.le_refl _) HB2.out) (hvm.below (Nat.le_refl _) HB2.out) HM.out hx).mono ?_
        rintro e w3 ⟨g3, rfl, o3, hg3, hb3⟩
        have Q_3 := Lib.hid o3
        have P_3 := Lib.hid (P_2.out.below P_2.out.lt hb3)
        have HB3 := Lib.hid (below_then HB2.out hb3)
        clear o3 hg3 hb3 HB2 P_2
        go_wp2_with fail
        refine (same2_ok _ _ _ _ _ _ _ _ (by unfold maxLen; omega) P_3.out.vrow Q_3.out.vrow).mono ?_
        rintro e w4 ⟨rfl, hb4⟩
        have P_4 := Lib.hid (P_3.out.below P_3.out.lt hb4)
        have Q_4 := Lib.hid (Q_3.out.below Q_3.out.lt hb4)
        have HB4 := Lib.hid (below_then HB3.out hb4)
        clear hb4 HB3 P_3 Q_3
        go_wp2
        go_ret
        exact ⟨rfl, HB4.out⟩
      · have HB0 : Hid (Below w.heap.size w w) := Below.refl _ _
        have HG : Hid (¬ (IsMod nm ms ∧ IsElem n xs nm ms ∧ IsElem n xs nm ms)) := fun h => hg ⟨h.1, h.2.1⟩
        have HG0 := Lib.hid hg
        clear hg
        go_enter Try.func6, Try.ntmps6
        go_wp2_with fail
        refine (montPow_bad _ n c xs _ 2 ce _ nm cm ms _ hn hm hnm hmm (hv.below (Nat.le_refl _) HB0.out) (hvm.below (Nat.le_refl _) HB0.out) (fun h => HG0.out ⟨h.1, h.2.1⟩)).mono ?_
        rintro e w1 ⟨rfl, hb1⟩
        have HB1 := Lib.hid (below_then HB0.out hb1)
        clear hb1 HB0
        go_wp2_with fail
        refine (refCheck_bad _ _ c xs _ _ c xs _ _ cm ms _ hnm hmm (hv.below (Nat.le_refl _) HB1.out) (hv.below (Nat.le_refl _) HB1.out) (hvm.below (Nat.le_refl _) HB1.out) HG.out).mono ?_
        rintro e w2 ⟨rfl, hb2⟩
        have HB2 := Lib.hid (below_then HB1.out hb2)
        clear hb2 HB1
        go_wp2_with fail
        refine (alive2_any _).mono ?_
        rintro e w' ⟨rfl, rfl⟩
        go_wp2_with fail
        refine (same2_bad _ _).mono ?_
        rintro e w' ⟨rfl, rfl⟩
        go_wp2
        go_ret
        exact ⟨rfl, HB2.out⟩
    · have h16i : (16 : Int) < (ne : Int) := by omega
      by_cases hg : IsMod nm ms ∧ IsElem n xs nm ms
      · have HB0 : Hid (Below w.heap.size w w) := Below.refl _ _
        have HG : Hid (IsMod nm ms ∧ IsElem n xs nm ms ∧ IsElem n xs nm ms) := ⟨hg.1, hg.2, hg.2⟩
        clear hg
        go_enter Try.func6, Try.ntmps6
        go_wp2_with fail
        refine (montPow_bad _ n c xs _ ne ce _ nm cm ms _ hn hm hnm hmm (hv.below (Nat.le_refl _) HB0.out) (hvm.below (Nat.le_refl _) HB0.out) (fun h => h16 h.2.2)).mono ?_
        rintro e w1 ⟨rfl, hb1⟩
        have HB1 := Lib.hid (below_then HB0.out hb1)
        clear hb1 HB0
        go_wp2_with fail
        refine (refCheck_any _ _ c xs _ _ c xs _ _ cm ms _ hnm hmm (hv.below (Nat.le_refl _) HB1.out) (hv.below (Nat.le_refl _) HB1.out) (hvm.below (Nat.le_refl _) HB1.out) HG.out).mono ?_
        rintro e w2 ⟨rfl, hb2⟩
        have HB2 := Lib.hid (below_then HB1.out hb2)
        clear hb2 HB1
        go_wp2_with fail
        refine (alive2_any _).mono ?_
        rintro e w' ⟨rfl, rfl⟩
        go_wp2_with fail
        refine (same2_bad _ _).mono ?_
        rintro e w' ⟨rfl, rfl⟩
        go_wp2
        go_ret
        exact ⟨rfl, HB2.out⟩
      · have HB0 : Hid (Below w.heap.size w w) := Below.refl _ _
        have HG : Hid (¬ (IsMod nm ms ∧ IsElem n xs nm ms ∧ IsElem n xs nm ms)) := fun h => hg ⟨h.1, h.2.1⟩
        have HG0 := Lib.hid hg
        clear hg
        go_enter Try.func6, Try.ntmps6
        go_wp2_with fail
        refine (montPow_bad _ n c xs _ ne ce _ nm cm ms _ hn hm hnm hmm (hv.below (Nat.le_refl _) HB0.out) (hvm.below (Nat.le_refl _) HB0.out) (fun h => HG0.out ⟨h.1, h.2.1⟩)).mono ?_
        rintro e w1 ⟨rfl, hb1⟩
        have HB1 := Lib.hid (below_then HB0.out hb1)
        clear hb1 HB0
        go_wp2_with fail
        refine (refCheck_bad _ _ c xs _ _ c xs _ _ cm ms _ hnm hmm (hv.below (Nat.le_refl _) HB1.out) (hv.below (Nat.le_refl _) HB1.out) (hvm.below (Nat.le_refl _) HB1.out) HG.out).mono ?_
        rintro e w2 ⟨rfl, hb2⟩
        have HB2 := Lib.hid (below_then HB1.out hb2)
        clear hb2 HB1
        go_wp2_with fail
        refine (alive2_any _).mono ?_
        rintro e w' ⟨rfl, rfl⟩
        go_wp2_with fail
        refine (same2_bad _ _).mono ?_
        rintro e w' ⟨rfl, rfl⟩
        go_wp2
        go_ret
        exact ⟨rfl, HB2.out⟩
end Go.Proofs.Ytdbfpbnabpapdaa

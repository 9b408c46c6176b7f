/- What is proved here: the law MontBack answers true: bringing in and bringing back are each other's inverse; a product of what was brought in, brought back, is the product's rest. -/
import Derived.Test.YtdbfpbnabpapdaaMontFns
import Derived.Test.YtdbfpbnabpapdaaRefMoves
namespace Go.Proofs.Ytdbfpbnabpapdaa
open Go.RowKit

theorem from_into {M X k : Nat} (hM : M % 2 = 1) (hX : X < M) : fromOf M k (X * 2 ^ k % M) = X :=
  (fromOf_eq hM (Nat.mod_lt _ (by omega)) hX rfl).symm

theorem from_product {M X Y k : Nat} (hM : M % 2 = 1) (h1 : 1 < M) : fromOf M k (fromOf M k ((X * 2 ^ k % M) * (Y * 2 ^ k % M) % M)) = X * Y % M := by
  have e1 : (X * 2 ^ k % M) * (Y * 2 ^ k % M) % M = (X * Y * 2 ^ k % M) * 2 ^ k % M := by
    rw [← Nat.mul_mod, Nat.mod_mul_mod]
    congr 1
    rw [Nat.mul_assoc, Nat.mul_assoc X Y, Nat.mul_assoc X]
    congr 1
    rw [Nat.mul_left_comm, Nat.mul_assoc]
  have e2 : X * Y * 2 ^ k % M = (X * Y % M) * 2 ^ k % M := by rw [Nat.mod_mul_mod]
  rw [e1, from_into hM (Nat.mod_lt _ (by omega)), e2, from_into hM (Nat.mod_lt _ (by omega))]

set_option maxHeartbeats 4000000 in
theorem montBack_any (a : Option Addr) (n c : Nat) (xs : List Nat) (a' : Option Addr) (n' c' : Nat) (ys : List Nat) (am : Option Addr) (nm cm : Nat) (ms : List Nat) (w : World) (hn : n ≤ c) (hm : c ≤ maxLen) (hn' : n' ≤ c') (hm' : c' ≤ maxLen) (hnm : nm ≤ cm) (hmm : cm ≤ maxLen)
    (hv : View w a n xs) (hv' : View w a' n' ys) (hvm : View w am nm ms) :
    Calls Try.prog 7 #[.slice a n c, .slice a' n' c', .slice am nm cm] w fun e w' => e = .returned (.bool true) ∧ Below w.heap.size w w' := by
  by_cases hA : IsMod nm ms ∧ IsElem n xs nm ms
  · by_cases hB : IsMod nm ms ∧ IsElem n' ys nm ms
    · obtain ⟨hM, rfl, hx⟩ := hA
      obtain ⟨_, rfl, hy⟩ := hB
      have HM := Lib.hid hM
      obtain ⟨h1, h8, hodd, hM1⟩ := hM
      have hM0 : 0 < val ms := by omega
      have pM := Lib.hid (val_lt_of hvm.small (K := n') (by rw [hvm.len]; exact Nat.le_refl _))
      have pX := Lib.hid (val_lt_of hv.small (K := n') (by rw [hv.len]; exact Nat.le_refl _))
      have pY := Lib.hid (val_lt_of hv'.small (K := n') (by rw [hv'.len]; exact Nat.le_refl _))
      have tM := Lib.hid (take_short hvm.len (by omega))
      have hN : n' ≤ maxLen := by unfold maxLen; omega
      have EX : Hid (row n' (val xs) = xs) := by have := row_val hv.small; rwa [hv.len] at this
      have lx := Lib.hid (Nat.mod_lt (val xs * 2 ^ (64 * n')) hM0)
      have ly := Lib.hid (Nat.mod_lt (val ys * 2 ^ (64 * n')) hM0)
      have lp := Lib.hid (fromOf_lt (k := 64 * n') hodd (Nat.mod_lt ((val xs * 2 ^ (64 * n') % val ms) * (val ys * 2 ^ (64 * n') % val ms)) hM0))
      have lv := Lib.hid (fromOf_lt hodd hx (64 * n'))
      have vx := Lib.hid (val_elem pM.out lx.out)
      have vy := Lib.hid (val_elem pM.out ly.out)
      have vp := Lib.hid (val_elem pM.out lp.out)
      have vv := Lib.hid (val_elem pM.out lv.out)
      have E1 := Lib.hid (from_product (X := val xs) (Y := val ys) (k := 64 * n') hodd hM1)
      have E2 := Lib.hid (from_into (k := 64 * n') hodd hx)
      have E3 := Lib.hid (fromOf_pow hodd hx (64 * n'))
      go_enter Try.func7, Try.ntmps7
      have HB0 : Hid (Below w.heap.size w w) := Below.refl _ _
      go_wp2_with fail
      refine (montInto_any _ c xs _ _ cm ms _ hn hm hnm hmm (hv.below (Nat.le_refl _) HB0.out) (hvm.below (Nat.le_refl _) HB0.out) HM.out hx).mono ?_
      rintro e w1 ⟨g1, rfl, o1, hg1, hb1⟩
      have X_1 := Lib.hid o1
      have HB1 := Lib.hid (below_then HB0.out hb1)
      clear o1 hg1 hb1 HB0
      go_wp2_with fail
      refine (montInto_any _ c' ys _ _ cm ms _ hn' hm' hnm hmm (hv'.below (Nat.le_refl _) HB1.out) (hvm.below (Nat.le_refl _) HB1.out) HM.out hy).mono ?_
      rintro e w2 ⟨g2, rfl, o2, hg2, hb2⟩
      have Y_2 := Lib.hid o2
      have X_2 := Lib.hid (X_1.out.below X_1.out.lt hb2)
      have HB2 := Lib.hid (below_then HB1.out hb2)
      clear o2 hg2 hb2 HB1 X_1
      go_wp2_with fail
      refine (montMul_any _ _ (row n' (val xs * 2 ^ (64 * n') % val ms)) _ _ (row n' (val ys * 2 ^ (64 * n') % val ms)) _ _ cm ms _ (Nat.le_refl _) hN (Nat.le_refl _) hN hnm hmm X_2.out.vrow Y_2.out.vrow (hvm.below (Nat.le_refl _) HB2.out) HM.out (by rw [vx.out]; exact lx.out) (by rw [vy.out]; exact ly.out)).mono ?_
      rintro e w3 ⟨g3, rfl, o3, hg3, hb3⟩
      rw [vx.out, vy.out] at o3
      have P_3 := Lib.hid o3
      have X_3 := Lib.hid (X_2.out.below X_2.out.lt hb3)
      have Y_3 := Lib.hid (Y_2.out.below Y_2.out.lt hb3)
      have HB3 := Lib.hid (below_then HB2.out hb3)
      clear o3 hg3 hb3 HB2 X_2 Y_2
      clear Y_3
      go_wp2_with fail
      refine (montFrom_any _ _ (row n' (fromOf (val ms) (64 * n') ((val xs * 2 ^ (64 * n') % val ms) * (val ys * 2 ^ (64 * n') % val ms) % val ms))) _ _ cm ms _ (Nat.le_refl _) hN hnm hmm P_3.out.vrow (hvm.below (Nat.le_refl _) HB3.out) HM.out (by rw [vp.out]; exact lp.out)).mono ?_
      rintro e w4 ⟨g4, rfl, o4, hg4, hb4⟩
      rw [vp.out, E1.out] at o4
      have Q_4 := Lib.hid o4
      have X_4 := Lib.hid (X_3.out.below X_3.out.lt hb4)
      have P_4 := Lib.hid (P_3.out.below P_3.out.lt hb4)
      have HB4 := Lib.hid (below_then HB3.out hb4)
      clear o4 hg4 hb4 HB3 X_3 P_3
      clear P_4
      go_wp2_with fail
      refine (mul_short _ _ c xs _ _ c' ys _ hn hm hn' hm' (hv.below (Nat.le_refl _) HB4.out) (hv'.below (Nat.le_refl _) HB4.out) (by omega) (by omega)).mono ?_
      rintro e w5 ⟨g5, rfl, o5, hg5, hb5⟩
      have T_5 := Lib.hid o5
      have X_5 := Lib.hid (X_4.out.below X_4.out.lt hb5)
      have Q_5 := Lib.hid (Q_4.out.below Q_4.out.lt hb5)
      have HB5 := Lib.hid (below_then HB4.out hb5)
      clear o5 hg5 hb5 HB4 X_4 Q_4
      go_wp2_with fail
      refine (rem_any _ _ _ (row (n' + n') (val xs * val ys)) _ _ cm ms _ (Nat.le_refl _) (by unfold maxLen; omega) hnm hmm T_5.out.vrow (hvm.below (Nat.le_refl _) HB5.out) (by rw [tM.out]; omega)).mono ?_
      rintro e w6 ⟨g6, rfl, o6, hg6, hb6⟩
      rw [tM.out, take_short (length_row _ _) (by omega), val_row_of (mul_lt pX.out pY.out), show min n' 16 = n' by omega] at o6
      rw [show min n' 16 = n' by omega]
      have S_6 := Lib.hid o6
      have X_6 := Lib.hid (X_5.out.below X_5.out.lt hb6)
      have Q_6 := Lib.hid (Q_5.out.below Q_5.out.lt hb6)
      have T_6 := Lib.hid (T_5.out.below T_5.out.lt hb6)
      have HB6 := Lib.hid (below_then HB5.out hb6)
      clear o6 hg6 hb6 HB5 X_5 Q_5 T_5
      clear T_6
      go_wp2_with fail
      refine (montFrom_any _ _ (row n' (val xs * 2 ^ (64 * n') % val ms)) _ _ cm ms _ (Nat.le_refl _) hN hnm hmm X_6.out.vrow (hvm.below (Nat.le_refl _) HB6.out) HM.out (by rw [vx.out]; exact lx.out)).mono ?_
      rintro e w7 ⟨g7, rfl, o7, hg7, hb7⟩
      rw [vx.out, E2.out, EX.out] at o7
      have U_7 := Lib.hid o7
      have X_7 := Lib.hid (X_6.out.below X_6.out.lt hb7)
      have Q_7 := Lib.hid (Q_6.out.below Q_6.out.lt hb7)
      have S_7 := Lib.hid (S_6.out.below S_6.out.lt hb7)
      have HB7 := Lib.hid (below_then HB6.out hb7)
      clear o7 hg7 hb7 HB6 X_6 Q_6 S_6
      clear X_7
      go_wp2_with fail
      refine (montFrom_any _ c xs _ _ cm ms _ hn hm hnm hmm (hv.below (Nat.le_refl _) HB7.out) (hvm.below (Nat.le_refl _) HB7.out) HM.out hx).mono ?_
      rintro e w8 ⟨g8, rfl, o8, hg8, hb8⟩
      have V_8 := Lib.hid o8
      have Q_8 := Lib.hid (Q_7.out.below Q_7.out.lt hb8)
      have S_8 := Lib.hid (S_7.out.below S_7.out.lt hb8)
      have U_8 := Lib.hid (U_7.out.below U_7.out.lt hb8)
      have HB8 := Lib.hid (below_then HB7.out hb8)
      clear o8 hg8 hb8 HB7 Q_7 S_7 U_7
      go_wp2_with fail
      refine (montInto_any _ _ (row n' (fromOf (val ms) (64 * n') (val xs))) _ _ cm ms _ (Nat.le_refl _) hN hnm hmm V_8.out.vrow (hvm.below (Nat.le_refl _) HB8.out) HM.out (by rw [vv.out]; exact lv.out)).mono ?_
      rintro e w9 ⟨g9, rfl, o9, hg9, hb9⟩
      rw [vv.out, E3.out, EX.out] at o9
      have Z_9 := Lib.hid o9
      have Q_9 := Lib.hid (Q_8.out.below Q_8.out.lt hb9)
      have S_9 := Lib.hid (S_8.out.below S_8.out.lt hb9)
      have U_9 := Lib.hid (U_8.out.below U_8.out.lt hb9)
      have V_9 := Lib.hid (V_8.out.below V_8.out.lt hb9)
      have HB9 := Lib.hid (below_then HB8.out hb9)
      clear o9 hg9 hb9 HB8 Q_8 S_8 U_8 V_8
      clear V_9
      go_wp2_with fail
      refine (alive2_any _).mono ?_
      rintro e w' ⟨rfl, rfl⟩
      go_wp2_with fail
      refine (same_true _ _ _ (row n' (val xs * val ys % val ms)) _ _ _ _ hN Q_9.out.vrow S_9.out.vrow).mono ?_
      rintro e w10 ⟨rfl, hb10⟩
      have Q_10 := Lib.hid (Q_9.out.below Q_9.out.lt hb10)
      have S_10 := Lib.hid (S_9.out.below S_9.out.lt hb10)
      have U_10 := Lib.hid (U_9.out.below U_9.out.lt hb10)
      have Z_10 := Lib.hid (Z_9.out.below Z_9.out.lt hb10)
      have HB10 := Lib.hid (below_then HB9.out hb10)
      clear hb10 HB9 Q_9 S_9 U_9 Z_9
      clear Q_10
      clear S_10
      have VU := Lib.hid (U_10.out.view hv.small)
      rw [hv.len] at VU
      go_wp2_with fail
      refine (same_true _ _ _ xs _ _ _ _ hN VU.out (hv.below (Nat.le_refl _) HB10.out)).mono ?_
      rintro e w11 ⟨rfl, hb11⟩
      have U_11 := Lib.hid (U_10.out.below U_10.out.lt hb11)
      have Z_11 := Lib.hid (Z_10.out.below Z_10.out.lt hb11)
      have HB11 := Lib.hid (below_then HB10.out hb11)
      clear hb11 HB10 U_10 Z_10
      clear U_11
      have VZ := Lib.hid (Z_11.out.view hv.small)
      rw [hv.len] at VZ
      go_wp2_with fail
      refine (same_true _ _ _ xs _ _ _ _ hN VZ.out (hv.below (Nat.le_refl _) HB11.out)).mono ?_
      rintro e w12 ⟨rfl, hb12⟩
      have Z_12 := Lib.hid (Z_11.out.below Z_11.out.lt hb12)
      have HB12 := Lib.hid (below_then HB11.out hb12)
      clear hb12 HB11 Z_11
      go_wp2
      go_ret
      exact ⟨rfl, HB12.out⟩
    · have HB := Lib.hid hB
      obtain ⟨hM, rfl, hA2⟩ := hA
      have HM := Lib.hid hM
      clear hM hB
      have HB0 : Hid (Below w.heap.size w w) := Below.refl _ _
      go_enter Try.func7, Try.ntmps7
      go_wp2_with fail
      refine (montInto_any _ c xs _ _ cm ms _ hn hm hnm hmm (hv.below (Nat.le_refl _) HB0.out) (hvm.below (Nat.le_refl _) HB0.out) HM.out hA2).mono ?_
      rintro e w1 ⟨g1, rfl, o1, hg1, hb1⟩
      have A_1 := Lib.hid o1
      have HB1 := Lib.hid (below_then HB0.out hb1)
      clear o1 hg1 hb1 HB0
      go_wp2_with fail
      refine (montInto_bad _ n' c' ys _ _ cm ms _ hn' hm' hnm hmm (hv'.below (Nat.le_refl _) HB1.out) (hvm.below (Nat.le_refl _) HB1.out) HB.out).mono ?_
      rintro e w' ⟨rfl, rfl⟩
      go_wp2_with fail
      refine (alive2_any _).mono ?_
      rintro e w' ⟨rfl, rfl⟩
      go_wp2
      go_ret
      exact ⟨rfl, HB1.out⟩
  · have HA := Lib.hid hA
    clear hA
    by_cases hB : IsMod nm ms ∧ IsElem n' ys nm ms
    · obtain ⟨hM, rfl, hB2⟩ := hB
      have HM := Lib.hid hM
      clear hM
      have HB0 : Hid (Below w.heap.size w w) := Below.refl _ _
      go_enter Try.func7, Try.ntmps7
      go_wp2_with fail
      refine (montInto_bad _ n c xs _ _ cm ms _ hn hm hnm hmm (hv.below (Nat.le_refl _) HB0.out) (hvm.below (Nat.le_refl _) HB0.out) HA.out).mono ?_
      rintro e w' ⟨rfl, rfl⟩
      go_wp2_with fail
      refine (montInto_any _ c' ys _ _ cm ms _ hn' hm' hnm hmm (hv'.below (Nat.le_refl _) HB0.out) (hvm.below (Nat.le_refl _) HB0.out) HM.out hB2).mono ?_
      rintro e w1 ⟨g1, rfl, o1, hg1, hb1⟩
      have B_1 := Lib.hid o1
      have HB1 := Lib.hid (below_then HB0.out hb1)
      clear o1 hg1 hb1 HB0
      go_wp2_with fail
      refine (alive2_any _).mono ?_
      rintro e w' ⟨rfl, rfl⟩
      go_wp2
      go_ret
      exact ⟨rfl, HB1.out⟩
    · have HB := Lib.hid hB
      clear hB
      have HB0 : Hid (Below w.heap.size w w) := Below.refl _ _
      go_enter Try.func7, Try.ntmps7
      go_wp2_with fail
      refine (montInto_bad _ n c xs _ nm cm ms _ hn hm hnm hmm (hv.below (Nat.le_refl _) HB0.out) (hvm.below (Nat.le_refl _) HB0.out) HA.out).mono ?_
      rintro e w' ⟨rfl, rfl⟩
      go_wp2_with fail
      refine (montInto_bad _ n' c' ys _ nm cm ms _ hn' hm' hnm hmm (hv'.below (Nat.le_refl _) HB0.out) (hvm.below (Nat.le_refl _) HB0.out) HB.out).mono ?_
      rintro e w' ⟨rfl, rfl⟩
      go_wp2_with fail
      refine (alive2_any _).mono ?_
      rintro e w' ⟨rfl, rfl⟩
      go_wp2
      go_ret
      exact ⟨rfl, HB0.out⟩
end Go.Proofs.Ytdbfpbnabpapdaa

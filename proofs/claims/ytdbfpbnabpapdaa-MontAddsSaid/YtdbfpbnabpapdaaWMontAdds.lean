/- What is proved here: the law MontAdds answers true: powers add up in the exponent, and of a product are the product of powers. -/
import Derived.Test.YtdbfpbnabpapdaaPowBad
import Derived.Test.YtdbfpbnabpapdaaRefMoves
namespace Go.Proofs.Ytdbfpbnabpapdaa
open Go.RowKit

theorem val_single (x : Nat) : val [x] = x := by simp [val]

theorem powers_add (X s t M : Nat) : (X ^ s % M) * (X ^ t % M) % M = X ^ (s + t) % M := by
  rw [← Nat.mul_mod, ← Nat.pow_add]

theorem powers_mul (X Y s M : Nat) : (X * Y % M) ^ s % M = (X ^ s % M) * (Y ^ s % M) % M := by
  rw [← Nat.pow_mod, Nat.mul_pow, Nat.mul_mod]

set_option maxHeartbeats 8000000 in
theorem montAdds_any (a : Option Addr) (n c : Nat) (xs : List Nat) (a' : Option Addr) (n' c' : Nat) (ys : List Nat) (am : Option Addr) (nm cm : Nat) (ms : List Nat) (s t : Int) (w : World) (hn : n ≤ c) (hm : c ≤ maxLen) (hn' : n' ≤ c') (hm' : c' ≤ maxLen) (hnm : nm ≤ cm) (hmm : cm ≤ maxLen)
    (hs0 : 0 ≤ s) (hs1 : s ≤ 18446744073709551615) (ht0 : 0 ≤ t) (ht1 : t ≤ 18446744073709551615) (hv : View w a n xs) (hv' : View w a' n' ys) (hvm : View w am nm ms) :
    Calls Try.prog 8 #[.slice a n c, .slice a' n' c', .slice am nm cm, .int .u64 s, .int .u64 t] w fun e w' => e = .returned (.bool true) ∧ Below w.heap.size w w' := by
  obtain ⟨S, hS⟩ : ∃ S : Nat, s / 2 = (S : Int) := ⟨(s / 2).toNat, by omega⟩
  obtain ⟨T, hT⟩ : ∃ T : Nat, t / 2 = (T : Int) := ⟨(t / 2).toNat, by omega⟩
  have lS : S < 2 ^ 63 := by omega
  have lT : T < 2 ^ 63 := by omega
  by_cases hA : IsMod nm ms ∧ IsElem n xs nm ms
  · by_cases hB : IsMod nm ms ∧ IsElem n' ys nm ms
    · have HB0 : Hid (Below w.heap.size w w) := Below.refl _ _
      obtain ⟨hM, rfl, hx⟩ := hA
      obtain ⟨_, rfl, hy⟩ := hB
      have HM := Lib.hid hM
      obtain ⟨h1, h8, hodd, hM1⟩ := hM
      have hM0 : 0 < val ms := by omega
      have pM := Lib.hid (val_lt_of hvm.small (K := n') (by rw [hvm.len]; exact Nat.le_refl _))
      have pX := Lib.hid (val_lt_of hv.small (K := n') (by rw [hv.len]; exact Nat.le_refl _))
      have tM := Lib.hid (take_short hvm.len (by omega))
      have hN : n' ≤ maxLen := by unfold maxLen; omega
      have lx := Lib.hid (Nat.mod_lt (val xs ^ S) hM0)
      have ly := Lib.hid (Nat.mod_lt (val xs ^ T) hM0)
      have vx := Lib.hid (val_elem pM.out lx.out)
      have vy := Lib.hid (val_elem pM.out ly.out)
      have fx := Lib.hid (Nat.lt_trans lx.out pM.out)
      have fy := Lib.hid (Nat.lt_trans ly.out pM.out)
      have E1 := Lib.hid (powers_add (val xs) S T (val ms))
      have pY := Lib.hid (val_lt_of hv'.small (K := n') (by rw [hv'.len]; exact Nat.le_refl _))
      have lu := Lib.hid (Nat.mod_lt (val ys ^ S) hM0)
      have vu := Lib.hid (val_elem pM.out lu.out)
      have fu := Lib.hid (Nat.lt_trans lu.out pM.out)
      have lab := Lib.hid (Nat.mod_lt (val xs * val ys) hM0)
      have vab := Lib.hid (val_elem pM.out lab.out)
      have E2 := Lib.hid (powers_mul (val xs) (val ys) S (val ms))
      go_enter Try.func8, Try.ntmps8
      go_wp2_with fail
      refine (montPow_any _ c xs _ 1 1 [S] _ _ cm ms _ hn hm (Nat.le_refl _) (by unfold maxLen; omega) (by omega) hnm hmm (hv.below (Nat.le_refl _) (HB0.out.alloc HB0.out.size _)) (view_lit _ S (by omega)) (hvm.below (Nat.le_refl _) (HB0.out.alloc HB0.out.size _)) HM.out hx).mono ?_
      rintro e w1 ⟨g1, rfl, o1, hg1, hb1⟩
      rw [val_single] at o1
      have X_1 := Lib.hid o1
      have HB1 := Lib.hid (below_then (HB0.out.alloc HB0.out.size _) hb1)
      clear o1 hg1 hb1 HB0
      go_wp2_with fail
      refine (montPow_any _ c xs _ 1 1 [T] _ _ cm ms _ hn hm (Nat.le_refl _) (by unfold maxLen; omega) (by omega) hnm hmm (hv.below (Nat.le_refl _) (HB1.out.alloc HB1.out.size _)) (view_lit _ T (by omega)) (hvm.below (Nat.le_refl _) (HB1.out.alloc HB1.out.size _)) HM.out hx).mono ?_
      rintro e w2 ⟨g2, rfl, o2, hg2, hb2⟩
      rw [val_single] at o2
      have Y_2 := Lib.hid o2
      have X_2 := Lib.hid ((X_1.out.alloc _).below (X_1.out.alloc _).lt hb2)
      have HB2 := Lib.hid (below_then (HB1.out.alloc HB1.out.size _) hb2)
      clear o2 hg2 hb2 HB1 X_1
      go_wp2_with fail
      refine (montPow_any _ c xs _ 1 1 [S + T] _ _ cm ms _ hn hm (Nat.le_refl _) (by unfold maxLen; omega) (by omega) hnm hmm (hv.below (Nat.le_refl _) (HB2.out.alloc HB2.out.size _)) (view_lit _ (S + T) (by omega)) (hvm.below (Nat.le_refl _) (HB2.out.alloc HB2.out.size _)) HM.out hx).mono ?_
      rintro e w3 ⟨g3, rfl, o3, hg3, hb3⟩
      rw [val_single] at o3
      have Z_3 := Lib.hid o3
      have X_3 := Lib.hid ((X_2.out.alloc _).below (X_2.out.alloc _).lt hb3)
      have Y_3 := Lib.hid ((Y_2.out.alloc _).below (Y_2.out.alloc _).lt hb3)
      have HB3 := Lib.hid (below_then (HB2.out.alloc HB2.out.size _) hb3)
      clear o3 hg3 hb3 HB2 X_2 Y_2
      go_wp2_with fail
      refine (mul_short _ _ _ (row n' (val xs ^ S % val ms)) _ _ _ (row n' (val xs ^ T % val ms)) _ (Nat.le_refl _) hN (Nat.le_refl _) hN X_3.out.vrow Y_3.out.vrow (by omega) (by omega)).mono ?_
      rintro e w4 ⟨g4, rfl, o4, hg4, hb4⟩
      rw [vx.out, vy.out] at o4
      have A_4 := Lib.hid o4
      have X_4 := Lib.hid (X_3.out.below X_3.out.lt hb4)
      have Y_4 := Lib.hid (Y_3.out.below Y_3.out.lt hb4)
      have Z_4 := Lib.hid (Z_3.out.below Z_3.out.lt hb4)
      have HB4 := Lib.hid (below_then HB3.out hb4)
      clear o4 hg4 hb4 HB3 X_3 Y_3 Z_3
      clear Y_4
      go_wp2_with fail
      refine (rem_any _ _ _ (row (n' + n') ((val xs ^ S % val ms) * (val xs ^ T % val ms))) _ _ cm ms _ (Nat.le_refl _) (by unfold maxLen; omega) hnm hmm A_4.out.vrow (hvm.below (Nat.le_refl _) HB4.out) (by rw [tM.out]; omega)).mono ?_
      rintro e w5 ⟨g5, rfl, o5, hg5, hb5⟩
      rw [tM.out, take_short (length_row _ _) (by omega), val_row_of (mul_lt fx.out fy.out), E1.out, show min n' 16 = n' by omega] at o5
      rw [show min n' 16 = n' by omega]
      have P_5 := Lib.hid o5
      have X_5 := Lib.hid (X_4.out.below X_4.out.lt hb5)
      have Z_5 := Lib.hid (Z_4.out.below Z_4.out.lt hb5)
      have A_5 := Lib.hid (A_4.out.below A_4.out.lt hb5)
      have HB5 := Lib.hid (below_then HB4.out hb5)
      clear o5 hg5 hb5 HB4 X_4 Z_4 A_4
      clear A_5
      go_wp2_with fail
      refine (same_true _ _ _ (row n' (val xs ^ (S + T) % val ms)) _ _ _ _ hN P_5.out.vrow Z_5.out.vrow).mono ?_
      rintro e w6 ⟨rfl, hb6⟩
      have X_6 := Lib.hid (X_5.out.below X_5.out.lt hb6)
      have Z_6 := Lib.hid (Z_5.out.below Z_5.out.lt hb6)
      have P_6 := Lib.hid (P_5.out.below P_5.out.lt hb6)
      have HB6 := Lib.hid (below_then HB5.out hb6)
      clear hb6 HB5 X_5 Z_5 P_5
      clear P_6
      clear Z_6
      go_wp2_with fail
      refine (montPow_any _ c' ys _ 1 1 [S] _ _ cm ms _ hn' hm' (Nat.le_refl _) (by unfold maxLen; omega) (by omega) hnm hmm (hv'.below (Nat.le_refl _) (HB6.out.alloc HB6.out.size _)) (view_lit _ S (by omega)) (hvm.below (Nat.le_refl _) (HB6.out.alloc HB6.out.size _)) HM.out hy).mono ?_
      rintro e w7 ⟨g7, rfl, o7, hg7, hb7⟩
      rw [val_single] at o7
      have U_7 := Lib.hid o7
      have X_7 := Lib.hid ((X_6.out.alloc _).below (X_6.out.alloc _).lt hb7)
      have HB7 := Lib.hid (below_then (HB6.out.alloc HB6.out.size _) hb7)
      clear o7 hg7 hb7 HB6 X_6
      go_wp2_with fail
      refine (mul_short _ _ c xs _ _ c' ys _ hn hm hn' hm' (hv.below (Nat.le_refl _) HB7.out) (hv'.below (Nat.le_refl _) HB7.out) (by omega) (by omega)).mono ?_
      rintro e w8 ⟨g8, rfl, o8, hg8, hb8⟩
      have B_8 := Lib.hid o8
      have X_8 := Lib.hid (X_7.out.below X_7.out.lt hb8)
      have U_8 := Lib.hid (U_7.out.below U_7.out.lt hb8)
      have HB8 := Lib.hid (below_then HB7.out hb8)
      clear o8 hg8 hb8 HB7 X_7 U_7
      go_wp2_with fail
      refine (rem_any _ _ _ (row (n' + n') (val xs * val ys)) _ _ cm ms _ (Nat.le_refl _) (by unfold maxLen; omega) hnm hmm B_8.out.vrow (hvm.below (Nat.le_refl _) HB8.out) (by rw [tM.out]; omega)).mono ?_
      rintro e w9 ⟨g9, rfl, o9, hg9, hb9⟩
      rw [tM.out, take_short (length_row _ _) (by omega), val_row_of (mul_lt pX.out pY.out), show min n' 16 = n' by omega] at o9
      rw [show min n' 16 = n' by omega]
      have AB_9 := Lib.hid o9
      have X_9 := Lib.hid (X_8.out.below X_8.out.lt hb9)
      have U_9 := Lib.hid (U_8.out.below U_8.out.lt hb9)
      have B_9 := Lib.hid (B_8.out.below B_8.out.lt hb9)
      have HB9 := Lib.hid (below_then HB8.out hb9)
      clear o9 hg9 hb9 HB8 X_8 U_8 B_8
      clear B_9
      go_wp2_with fail
      refine (montPow_any _ _ (row n' (val xs * val ys % val ms)) _ 1 1 [S] _ _ cm ms _ (Nat.le_refl _) hN (Nat.le_refl _) (by unfold maxLen; omega) (by omega) hnm hmm (AB_9.out.alloc _).vrow (view_lit _ S (by omega)) (hvm.below (Nat.le_refl _) (HB9.out.alloc HB9.out.size _)) HM.out (by rw [vab.out]; exact lab.out)).mono ?_
      rintro e w10 ⟨g10, rfl, o10, hg10, hb10⟩
      rw [val_single, vab.out, E2.out] at o10
      have V_10 := Lib.hid o10
      have X_10 := Lib.hid ((X_9.out.alloc _).below (X_9.out.alloc _).lt hb10)
      have U_10 := Lib.hid ((U_9.out.alloc _).below (U_9.out.alloc _).lt hb10)
      have AB_10 := Lib.hid ((AB_9.out.alloc _).below (AB_9.out.alloc _).lt hb10)
      have HB10 := Lib.hid (below_then (HB9.out.alloc HB9.out.size _) hb10)
      clear o10 hg10 hb10 HB9 X_9 U_9 AB_9
      clear AB_10
      go_wp2_with fail
      refine (mul_short _ _ _ (row n' (val xs ^ S % val ms)) _ _ _ (row n' (val ys ^ S % val ms)) _ (Nat.le_refl _) hN (Nat.le_refl _) hN X_10.out.vrow U_10.out.vrow (by omega) (by omega)).mono ?_
      rintro e w11 ⟨g11, rfl, o11, hg11, hb11⟩
      rw [vx.out, vu.out] at o11
      have C_11 := Lib.hid o11
      have X_11 := Lib.hid (X_10.out.below X_10.out.lt hb11)
      have U_11 := Lib.hid (U_10.out.below U_10.out.lt hb11)
      have V_11 := Lib.hid (V_10.out.below V_10.out.lt hb11)
      have HB11 := Lib.hid (below_then HB10.out hb11)
      clear o11 hg11 hb11 HB10 X_10 U_10 V_10
      clear X_11
      clear U_11
      go_wp2_with fail
      refine (rem_any _ _ _ (row (n' + n') ((val xs ^ S % val ms) * (val ys ^ S % val ms))) _ _ cm ms _ (Nat.le_refl _) (by unfold maxLen; omega) hnm hmm C_11.out.vrow (hvm.below (Nat.le_refl _) HB11.out) (by rw [tM.out]; omega)).mono ?_
      rintro e w12 ⟨g12, rfl, o12, hg12, hb12⟩
      rw [tM.out, take_short (length_row _ _) (by omega), val_row_of (mul_lt fx.out fu.out), show min n' 16 = n' by omega] at o12
      rw [show min n' 16 = n' by omega]
      have Q_12 := Lib.hid o12
      have V_12 := Lib.hid (V_11.out.below V_11.out.lt hb12)
      have C_12 := Lib.hid (C_11.out.below C_11.out.lt hb12)
      have HB12 := Lib.hid (below_then HB11.out hb12)
      clear o12 hg12 hb12 HB11 V_11 C_11
      clear C_12
      go_wp2_with fail
      refine (alive2_any _).mono ?_
      rintro e w' ⟨rfl, rfl⟩
      go_wp2_with fail
      refine (same_true _ _ _ (row n' ((val xs ^ S % val ms) * (val ys ^ S % val ms) % val ms)) _ _ _ _ hN V_12.out.vrow Q_12.out.vrow).mono ?_
      rintro e w13 ⟨rfl, hb13⟩
      have V_13 := Lib.hid (V_12.out.below V_12.out.lt hb13)
      have Q_13 := Lib.hid (Q_12.out.below Q_12.out.lt hb13)
      have HB13 := Lib.hid (below_then HB12.out hb13)
      clear hb13 HB12 V_12 Q_12
      go_wp2
      go_ret
      exact ⟨rfl, HB13.out⟩
    · have HB0 : Hid (Below w.heap.size w w) := Below.refl _ _
      obtain ⟨hM, rfl, hx⟩ := hA
      have HBb := Lib.hid hB
      clear hB
      have HM := Lib.hid hM
      obtain ⟨h1, h8, hodd, hM1⟩ := hM
      have hM0 : 0 < val ms := by omega
      have pM := Lib.hid (val_lt_of hvm.small (K := n) (by rw [hvm.len]; exact Nat.le_refl _))
      have pX := Lib.hid (val_lt_of hv.small (K := n) (by rw [hv.len]; exact Nat.le_refl _))
      have tM := Lib.hid (take_short hvm.len (by omega))
      have hN : n ≤ maxLen := by unfold maxLen; omega
      have lx := Lib.hid (Nat.mod_lt (val xs ^ S) hM0)
      have ly := Lib.hid (Nat.mod_lt (val xs ^ T) hM0)
      have vx := Lib.hid (val_elem pM.out lx.out)
      have vy := Lib.hid (val_elem pM.out ly.out)
      have fx := Lib.hid (Nat.lt_trans lx.out pM.out)
      have fy := Lib.hid (Nat.lt_trans ly.out pM.out)
      have E1 := Lib.hid (powers_add (val xs) S T (val ms))
      go_enter Try.func8, Try.ntmps8
      go_wp2_with fail
      refine (montPow_any _ c xs _ 1 1 [S] _ _ cm ms _ hn hm (Nat.le_refl _) (by unfold maxLen; omega) (by omega) hnm hmm (hv.below (Nat.le_refl _) (HB0.out.alloc HB0.out.size _)) (view_lit _ S (by omega)) (hvm.below (Nat.le_refl _) (HB0.out.alloc HB0.out.size _)) HM.out hx).mono ?_
      rintro e w1 ⟨g1, rfl, o1, hg1, hb1⟩
      rw [val_single] at o1
      have X_1 := Lib.hid o1
      have HB1 := Lib.hid (below_then (HB0.out.alloc HB0.out.size _) hb1)
      clear o1 hg1 hb1 HB0
      go_wp2_with fail
      refine (montPow_any _ c xs _ 1 1 [T] _ _ cm ms _ hn hm (Nat.le_refl _) (by unfold maxLen; omega) (by omega) hnm hmm (hv.below (Nat.le_refl _) (HB1.out.alloc HB1.out.size _)) (view_lit _ T (by omega)) (hvm.below (Nat.le_refl _) (HB1.out.alloc HB1.out.size _)) HM.out hx).mono ?_
      rintro e w2 ⟨g2, rfl, o2, hg2, hb2⟩
      rw [val_single] at o2
      have Y_2 := Lib.hid o2
      have X_2 := Lib.hid ((X_1.out.alloc _).below (X_1.out.alloc _).lt hb2)
      have HB2 := Lib.hid (below_then (HB1.out.alloc HB1.out.size _) hb2)
      clear o2 hg2 hb2 HB1 X_1
      go_wp2_with fail
      refine (montPow_any _ c xs _ 1 1 [S + T] _ _ cm ms _ hn hm (Nat.le_refl _) (by unfold maxLen; omega) (by omega) hnm hmm (hv.below (Nat.le_refl _) (HB2.out.alloc HB2.out.size _)) (view_lit _ (S + T) (by omega)) (hvm.below (Nat.le_refl _) (HB2.out.alloc HB2.out.size _)) HM.out hx).mono ?_
      rintro e w3 ⟨g3, rfl, o3, hg3, hb3⟩
      rw [val_single] at o3
      have Z_3 := Lib.hid o3
      have X_3 := Lib.hid ((X_2.out.alloc _).below (X_2.out.alloc _).lt hb3)
      have Y_3 := Lib.hid ((Y_2.out.alloc _).below (Y_2.out.alloc _).lt hb3)
      have HB3 := Lib.hid (below_then (HB2.out.alloc HB2.out.size _) hb3)
      clear o3 hg3 hb3 HB2 X_2 Y_2
      go_wp2_with fail
      refine (mul_short _ _ _ (row n (val xs ^ S % val ms)) _ _ _ (row n (val xs ^ T % val ms)) _ (Nat.le_refl _) hN (Nat.le_refl _) hN X_3.out.vrow Y_3.out.vrow (by omega) (by omega)).mono ?_
      rintro e w4 ⟨g4, rfl, o4, hg4, hb4⟩
      rw [vx.out, vy.out] at o4
      have A_4 := Lib.hid o4
      have X_4 := Lib.hid (X_3.out.below X_3.out.lt hb4)
      have Y_4 := Lib.hid (Y_3.out.below Y_3.out.lt hb4)
      have Z_4 := Lib.hid (Z_3.out.below Z_3.out.lt hb4)
      have HB4 := Lib.hid (below_then HB3.out hb4)
      clear o4 hg4 hb4 HB3 X_3 Y_3 Z_3
      clear Y_4
      go_wp2_with fail
      refine (rem_any _ _ _ (row (n + n) ((val xs ^ S % val ms) * (val xs ^ T % val ms))) _ _ cm ms _ (Nat.le_refl _) (by unfold maxLen; omega) hnm hmm A_4.out.vrow (hvm.below (Nat.le_refl _) HB4.out) (by rw [tM.out]; omega)).mono ?_
      rintro e w5 ⟨g5, rfl, o5, hg5, hb5⟩
      rw [tM.out, take_short (length_row _ _) (by omega), val_row_of (mul_lt fx.out fy.out), E1.out, show min n 16 = n by omega] at o5
      rw [show min n 16 = n by omega]
      have P_5 := Lib.hid o5
      have X_5 := Lib.hid (X_4.out.below X_4.out.lt hb5)
      have Z_5 := Lib.hid (Z_4.out.below Z_4.out.lt hb5)
      have A_5 := Lib.hid (A_4.out.below A_4.out.lt hb5)
      have HB5 := Lib.hid (below_then HB4.out hb5)
      clear o5 hg5 hb5 HB4 X_4 Z_4 A_4
      clear A_5
      go_wp2_with fail
      refine (same_true _ _ _ (row n (val xs ^ (S + T) % val ms)) _ _ _ _ hN P_5.out.vrow Z_5.out.vrow).mono ?_
      rintro e w6 ⟨rfl, hb6⟩
      have X_6 := Lib.hid (X_5.out.below X_5.out.lt hb6)
      have Z_6 := Lib.hid (Z_5.out.below Z_5.out.lt hb6)
      have P_6 := Lib.hid (P_5.out.below P_5.out.lt hb6)
      have HB6 := Lib.hid (below_then HB5.out hb6)
      clear hb6 HB5 X_5 Z_5 P_5
      clear P_6
      clear Z_6
      go_wp2_with fail
      refine (montPow_bad _ n' c' ys _ 1 1 _ _ cm ms _ hn' hm' hnm hmm (hv'.below (Nat.le_refl _) (HB6.out.alloc HB6.out.size _)) (hvm.below (Nat.le_refl _) (HB6.out.alloc HB6.out.size _)) (fun h => HBb.out ⟨h.1, h.2.1⟩)).mono ?_
      rintro e w7 ⟨rfl, hb7⟩
      have X_7 := Lib.hid ((X_6.out.alloc _).below (X_6.out.alloc _).lt hb7)
      have HB7 := Lib.hid (below_then (HB6.out.alloc HB6.out.size _) hb7)
      clear hb7 HB6 X_6
      go_wp2_with fail
      refine (alive2_any _).mono ?_
      rintro e w' ⟨rfl, rfl⟩
      go_wp2_with fail
      refine (refCheck_bad _ n' c' ys _ n' c' ys _ _ cm ms _ hnm hmm (hv'.below (Nat.le_refl _) HB7.out) (hv'.below (Nat.le_refl _) HB7.out) (hvm.below (Nat.le_refl _) HB7.out) (fun h => HBb.out ⟨h.1, h.2.1⟩)).mono ?_
      rintro e w8 ⟨rfl, hb8⟩
      have X_8 := Lib.hid (X_7.out.below X_7.out.lt hb8)
      have HB8 := Lib.hid (below_then HB7.out hb8)
      clear hb8 HB7 X_7
      go_wp2
      go_ret
      exact ⟨rfl, HB8.out⟩
  · have HB0 : Hid (Below w.heap.size w w) := Below.refl _ _
    have HG := Lib.hid hA
    clear hA
    go_enter Try.func8, Try.ntmps8
    go_wp2_with fail
    refine (montPow_bad _ n c xs _ 1 1 _ nm cm ms _ hn hm hnm hmm (hv.below (Nat.le_refl _) (HB0.out.alloc HB0.out.size _)) (hvm.below (Nat.le_refl _) (HB0.out.alloc HB0.out.size _)) (fun h => HG.out ⟨h.1, h.2.1⟩)).mono ?_
    rintro e w1 ⟨rfl, hb1⟩
    have HB1 := Lib.hid (below_then (HB0.out.alloc HB0.out.size _) hb1)
    clear hb1 HB0
    go_wp2_with fail
    refine (montPow_bad _ n c xs _ 1 1 _ nm cm ms _ hn hm hnm hmm (hv.below (Nat.le_refl _) (HB1.out.alloc HB1.out.size _)) (hvm.below (Nat.le_refl _) (HB1.out.alloc HB1.out.size _)) (fun h => HG.out ⟨h.1, h.2.1⟩)).mono ?_
    rintro e w2 ⟨rfl, hb2⟩
    have HB2 := Lib.hid (below_then (HB1.out.alloc HB1.out.size _) hb2)
    clear hb2 HB1
    go_wp2_with fail
    refine (montPow_bad _ n c xs _ 1 1 _ nm cm ms _ hn hm hnm hmm (hv.below (Nat.le_refl _) (HB2.out.alloc HB2.out.size _)) (hvm.below (Nat.le_refl _) (HB2.out.alloc HB2.out.size _)) (fun h => HG.out ⟨h.1, h.2.1⟩)).mono ?_
    rintro e w3 ⟨rfl, hb3⟩
    have HB3 := Lib.hid (below_then (HB2.out.alloc HB2.out.size _) hb3)
    clear hb3 HB2
    go_wp2_with fail
    refine (alive2_any _).mono ?_
    rintro e w' ⟨rfl, rfl⟩
    go_wp2
    go_ret
    exact ⟨rfl, HB3.out⟩
end Go.Proofs.Ytdbfpbnabpapdaa

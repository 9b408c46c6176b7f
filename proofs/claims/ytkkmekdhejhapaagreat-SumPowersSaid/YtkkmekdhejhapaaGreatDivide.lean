/- What is proved here: a contract of nat.divide: what a number leaves, divided by another one whose highest limb is not 0. -/
import Derived.Test.YtkkmekdhejhapaaGreatGuess
namespace Go.Proofs.YtkkmekdhejhapaaGreat
open Go.RowKit
theorem ViewB.mono {B B' : Nat} {w : World} {a : Option Addr} {n : Nat} {xs : List Nat} (h : ViewB B w a n xs) (hB : B ≤ B') : ViewB B' w a n xs :=
  ⟨h.len, h.small, fun i hi => by
    obtain ⟨b, off, e, hlt, hc⟩ := h.cell i hi
    exact ⟨b, off, e, Nat.lt_of_lt_of_le hlt hB, hc⟩⟩
theorem nbits_pos {x : Nat} (h : x ≠ 0) : 1 ≤ nbits x := by simp [nbits, h]
theorem nbits_range {x : Nat} (h : x ≠ 0) : 2 ^ (nbits x - 1) ≤ x ∧ x < 2 ^ nbits x := by
  have e : nbits x = x.log2 + 1 := by simp [nbits, h]
  rw [e]
  exact ⟨(Nat.le_log2 h).1 (Nat.le_refl _), Nat.lt_log2_self⟩
theorem norm_div {ys : List Nat} (hs : Small ys) {n : Nat} (hl : ys.length = n) (hn : 1 ≤ n) (ht : lm ys (n - 1) ≠ 0) :
    2 ^ (64 - nbits (lm ys (n - 1))) * val ys < 2 ^ (64 * n) ∧ 2 ^ (64 * n - 1) ≤ 2 ^ (64 - nbits (lm ys (n - 1))) * val ys := by
  have hlt := lm_lt hs (n - 1)
  have hb := nbits_le hlt
  have hb1 := nbits_pos ht
  obtain ⟨r1, r2⟩ := nbits_range ht
  have hv := val_lt hs
  rw [hl] at hv
  have hP := Nat.two_pow_pos (64 * (n - 1))
  have e : val ys / 2 ^ (64 * (n - 1)) = lm ys (n - 1) := by
    rw [lm_val hs, Nat.mod_eq_of_lt]
    apply Nat.div_lt_of_lt_mul
    rw [← Nat.pow_add, show 64 * (n - 1) + 64 = 64 * n by omega]
    exact hv
  generalize lm ys (n - 1) = t at *
  generalize val ys = V at *
  have u1 : V < (t + 1) * 2 ^ (64 * (n - 1)) := by
    rw [← e]
    have := Nat.div_add_mod V (2 ^ (64 * (n - 1)))
    have := Nat.mod_lt V hP
    rw [Nat.add_mul, Nat.mul_comm (V / _)]
    omega
  have u2 : t * 2 ^ (64 * (n - 1)) ≤ V := by rw [← e]; exact Nat.div_mul_le_self _ _
  constructor
  · have a1 : (t + 1) * 2 ^ (64 * (n - 1)) ≤ 2 ^ nbits t * 2 ^ (64 * (n - 1)) := Nat.mul_le_mul_right _ r2
    have a2 : 2 ^ (64 - nbits t) * V < 2 ^ (64 - nbits t) * (2 ^ nbits t * 2 ^ (64 * (n - 1))) := Nat.mul_lt_mul_of_pos_left (by omega) (Nat.two_pow_pos _)
    rw [← Nat.pow_add, ← Nat.pow_add, show 64 - nbits t + (nbits t + 64 * (n - 1)) = 64 * n by omega] at a2
    exact a2
  · have a1 : 2 ^ (nbits t - 1) * 2 ^ (64 * (n - 1)) ≤ t * 2 ^ (64 * (n - 1)) := Nat.mul_le_mul_right _ r1
    have a2 : 2 ^ (64 - nbits t) * (2 ^ (nbits t - 1) * 2 ^ (64 * (n - 1))) ≤ 2 ^ (64 - nbits t) * V := Nat.mul_le_mul_left _ (by omega)
    rw [← Nat.pow_add, ← Nat.pow_add, show 64 - nbits t + (nbits t - 1 + 64 * (n - 1)) = 64 * n - 1 by omega] at a2
    exact a2
theorem top_bit {D n : Nat} (hn : 1 ≤ n) (h1 : D < 2 ^ (64 * n)) (h2 : 2 ^ (64 * n - 1) ≤ D) : 2 ^ 63 ≤ lm (row n D) (n - 1) := by
  rw [lm_row _ _ _ (by omega), Nat.mod_eq_of_lt]
  · rw [Nat.le_div_iff_mul_le (Nat.two_pow_pos _), ← Nat.pow_add, show 63 + 64 * (n - 1) = 64 * n - 1 by omega]
    exact h2
  · apply Nat.div_lt_of_lt_mul
    rw [← Nat.pow_add, show 64 * (n - 1) + 64 = 64 * n by omega]
    exact h1
theorem rest_fits {A s L : Nat} (hs : s ≤ 63) (hA : A < 2 ^ (64 * L)) : 2 ^ s * A < 2 ^ (64 * (L + 1) - 1) := by
  have a : 2 ^ s * A < 2 ^ s * 2 ^ (64 * L) := Nat.mul_lt_mul_of_pos_left hA (Nat.two_pow_pos _)
  rw [← Nat.pow_add] at a
  exact Nat.lt_of_lt_of_le a (Nat.pow_le_pow_right (by decide) (by omega))
theorem rest_start {R D n K : Nat} (hn : n ≤ K) (hn1 : 1 ≤ n) (hR : R < 2 ^ (64 * K - 1)) (hD : 2 ^ (64 * n - 1) ≤ D) : R < D * 2 ^ (64 * (K - n)) := by
  refine Nat.lt_of_lt_of_le hR ?_
  have : 2 ^ (64 * n - 1) * 2 ^ (64 * (K - n)) ≤ D * 2 ^ (64 * (K - n)) := Nat.mul_le_mul_right _ hD
  rw [← Nat.pow_add, show 64 * n - 1 + 64 * (K - n) = 64 * K - 1 by omega] at this
  exact this
theorem mod_down (R D i0 : Nat) : R % (D * 2 ^ (64 * (i0 + 1))) % (D * 2 ^ (64 * i0)) = R % (D * 2 ^ (64 * i0)) := by
  apply Nat.mod_mod_of_dvd
  rw [pow64, Nat.mul_left_comm]
  exact Nat.dvd_mul_left _ _
theorem last_rest (A M s : Nat) : 2 ^ s * A % (2 ^ s * M) / 2 ^ s = A % M := by
  rw [Nat.mul_mod_mul_left, Nat.mul_div_cancel_left _ (Nat.two_pow_pos _)]
theorem shiftUp_int (a : Option Addr) (n c : Nat) (xs : List Nat) (s K : Nat) (S W : Int) (w : World) (hS : S = (s : Int)) (hW : W = (K : Int)) (hn : n ≤ maxLen) (hs : s ≤ 63) (hK : K ≤ 40) (hv : View w a n xs) :
    Calls Tryz.prog 213 #[.slice a n c, .int .i64 S, .int .i64 W] w (Makes1 K (2 ^ s * (val xs % 2 ^ (64 * K))) w) := by
  subst hS hW
  exact shiftUp_any a n c xs s K w hn hs hK hv
set_option maxHeartbeats 1000000 in
theorem divide_any (a : Option Addr) (na ca : Nat) (xs : List Nat) (a' : Option Addr) (n c : Nat) (ys : List Nat) (w : World) (hna : na ≤ 16) (hn : 1 ≤ n) (hn2 : n ≤ 16) (hv : View w a na xs) (hv' : View w a' n ys) (ht : lm ys (n - 1) ≠ 0) :
    Calls Tryz.prog 208 #[.slice a na ca, .slice a' n c] w (Makes1 n (val xs % val ys) w) := by
  obtain ⟨d1, d2⟩ := norm_div hv'.small hv'.len hn ht
  obtain ⟨b, off, rfl, _, hct⟩ := hv'.cell (n - 1) (by omega)
  have l3 := hv'.lt (n - 1)
  have hs63 : 64 - nbits (lm ys (n - 1)) ≤ 63 := by have := nbits_pos ht; omega
  have ND := Lib.hid (And.intro d1 d2)
  have hn1 : (0 : Int) ≤ (n : Int) - 1 := by omega
  clear d1 d2 ht
  go_enter Tryz.func208, Tryz.ntmps208
  go_wp2_with fail
  refine (clz_any _ _ l3).mono ?_
  rintro e w' ⟨rfl, rfl⟩
  clear l3
  generalize 64 - nbits (lm ys (n - 1)) = s at *
  go_wp2_with fail
  ((with_reducible refine (shiftUp_int _ _ _ ys s n _ _ _ rfl rfl (by unfold maxLen; omega) hs63 (by omega) hv').mono ?_))
  rintro e w1 ⟨g1, rfl, o1, hg1, hb1⟩
  rw [Nat.mod_eq_of_lt (show val ys < 2 ^ (64 * n) by rw [← hv'.len]; exact val_lt hv'.small)] at o1
  obtain ⟨D, hD⟩ : ∃ D, D = 2 ^ s * val ys := ⟨_, rfl⟩
  rw [← hD] at o1
  have EDn : Hid (D < 2 ^ (64 * n) ∧ 2 ^ (64 * n - 1) ≤ D) := by rw [hD]; exact ND.out
  have ED := Lib.hid hD
  have u1 := hv.below (Nat.le_refl _) hb1
  have HO1 := Lib.hid o1
  have HB1 := Lib.hid hb1
  clear hD o1 hb1 ND hct
  obtain ⟨L, hL⟩ : ∃ L, L = max na n := ⟨_, rfl⟩
  have q1 : na ≤ L := by omega
  have q2 : n ≤ L := by omega
  have q3 : L ≤ 16 := by omega
  have HR := Lib.hid (rest_fits (s := s) hs63 (A := val xs) (L := L) (Nat.lt_of_lt_of_le (val_lt hv.small) (Nat.pow_le_pow_right (by decide) (by rw [hv.len]; omega))))
  have HA : Hid (val xs % 2 ^ (64 * (L + 1)) = val xs) := Nat.mod_eq_of_lt (Nat.lt_of_lt_of_le (val_lt hv.small) (Nat.pow_le_pow_right (by decide) (by rw [hv.len]; omega)))
  go_wp2_with fail
  ((with_reducible refine (shiftUp_int _ _ _ xs s (L + 1) _ _ _ rfl (by omega) (by unfold maxLen; omega) hs63 (by omega) u1).mono ?_))
  rintro e w2 ⟨g2, rfl, o2, hg2, hb2⟩
  rw [HA.out] at o2
  obtain ⟨R, hR⟩ : ∃ R, R = 2 ^ s * val xs := ⟨_, rfl⟩
  rw [← hR] at o2 HR
  have ER := Lib.hid hR
  have RS := Lib.hid (rest_start (K := L + 1) (by omega) hn HR.out EDn.out.2)
  have VD := (HO1.out.vrow.viewB (Nat.le_refl _) hb2).mono hg2
  have HB2 := Lib.hid (below_then HB1.out hb2)
  have hg2w : w.heap.size ≤ g2 := by have := HB1.out.size; omega
  have TB := Lib.hid (top_bit hn EDn.out.1 EDn.out.2)
  have HV0 : Hid (val (row (L + 1) R) = R % (D * 2 ^ (64 * (L + 1 - n - 0)))) := by
    have h1 := HR.out
    have h2 : R < 2 ^ (64 * (L + 1)) := Nat.lt_of_lt_of_le h1 (Nat.pow_le_pow_right (by decide) (by omega))
    rw [Hid, val_row, Nat.mod_eq_of_lt h2, Nat.sub_zero, Nat.mod_eq_of_lt RS.out]
  have HO2 := Lib.hid o2
  have VE := Lib.hid (show val (row n D) = D from by rw [val_row, Nat.mod_eq_of_lt EDn.out.1])
  clear hR o2 hb2 HO1 HB1 HA u1 hL
  go_wp2
  rw [show ((L : Int) + 1 - (n : Int)) = ((L + 1 - n : Nat) : Int) by omega]
  have qd1 : L + 1 - n + n ≤ L + 1 := by omega
  have qd2 : L + 1 ≤ L + 1 - n + n := by omega
  generalize L + 1 - n = d at *
  go_loopw [38] (fun i wr => ∃ k us, k ≤ d ∧ i = .int .i64 (k : Nat) ∧ us.length = L + 1 ∧ Small us ∧ val us = R % (D * 2 ^ (64 * (d - k))) ∧ Own wr g2 us ∧ Below g2 w2 wr) (fun i _ => d - (intOf i).toNat)
  case atStart => exact ⟨0, _, Nat.zero_le _, rfl, length_row _ _, small_row _ _, HV0.out, HO2.out, Below.refl _ _⟩
  case round =>
    clear HV0 HO2
    obtain ⟨k, us, hk, rfl, hlen, hsm, hval, ho, hbl⟩ := hrel
    have HL := Lib.hid hlen
    have HSm := Lib.hid hsm
    have HVa := Lib.hid hval
    have HO := Lib.hid ho
    have HB := Lib.hid hbl
    clear hlen hsm hval ho hbl
    by_cases hlt : k < d
    · obtain ⟨p, hp⟩ : ∃ p : Nat, p + 1 + k = d := ⟨d - 1 - k, by omega⟩
      have hpi : (d : Int) - 1 - (k : Int) = (p : Int) := by omega
      have hp2 : p + 1 + k ≤ d := by omega
      have hp3 : d ≤ p + 1 + k := by omega
      have HP := Lib.hid hp
      have hX : Hid (val us < val (row n D) * 2 ^ (64 * (p + 1))) := by
        rw [Hid, VE.out, HVa.out, show d - k = p + 1 by omega]
        exact Nat.mod_lt _ (Nat.mul_pos (Nat.lt_of_lt_of_le (Nat.two_pow_pos _) EDn.out.2) (Nat.two_pow_pos _))
      clear hp
      go_wp2_with fail
      ((with_reducible refine (takeDigit_any n _ _ _ g2 p us (row n D) _ _ (by omega) hn (by omega) (by have := HL.out; omega) HO.out HSm.out (VD.below (Nat.le_refl _) HB.out) TB.out hX.out).mono ?_))
      rintro e w3 ⟨vs, rfl, ho3, hl3, hs3, hv3, hb3⟩
      have HO3 := Lib.hid ho3
      have HL3 := Lib.hid (hl3.trans HL.out)
      have HS3 := Lib.hid hs3
      have HV3 : Hid (val vs = R % (D * 2 ^ (64 * (d - (k + 1))))) := by
        rw [Hid, hv3, VE.out, HVa.out, show d - k = p + 1 by omega, mod_down, show d - (k + 1) = p by omega]
      have HB3 := Lib.hid (HB.out.trans hb3)
      clear ho3 hl3 hs3 hv3 hb3 HO HB HL HSm HVa hX hpi
      go_wp2
      go_roundw
      case rel => exact ⟨k + 1, vs, by omega, by go_num, HL3.out, HS3.out, HV3.out, HO3.out, HB3.out⟩
      case measure => simp [intOf]; omega
    · obtain rfl : k = d := by omega
      have HF : Hid (val us = R % D) := by
        rw [Hid, HVa.out, Nat.sub_self, Nat.mul_zero, Nat.pow_zero, Nat.mul_one]
      have hvw := HO.out.view HSm.out
      rw [HL.out] at hvw
      have hvt := hvw.take n
      rw [show min (L + 1) n = n by omega] at hvt
      have HT : Hid (val (us.take n) = R % D) := by
        rw [Hid, val_take _ _ (fun j hj => lm_zero_of_lt HSm.out (by rw [HF.out]; exact Nat.lt_trans (Nat.mod_lt _ (Nat.lt_of_lt_of_le (Nat.two_pow_pos _) EDn.out.2)) EDn.out.1) hj)]
        exact HF.out
      have HB3 : Hid (Below w.heap.size w wr) := HB2.out.trans (HB.out.mono hg2w)
      clear hvw HO HB HVa
      go_wp2_with fail
      ((with_reducible refine (shiftDown_any _ _ _ (us.take n) s _ (by omega) hs63 hvt).mono ?_))
      rintro e w4 ⟨g4, rfl, o4, hg4, hb4⟩
      rw [HT.out, ER.out, ED.out, last_rest] at o4
      have HO4 := Lib.hid o4
      have HB4 := Lib.hid (below_then HB3.out hb4)
      have hg4w : w.heap.size ≤ g4 := by have := HB3.out.size; omega
      clear o4 hb4
      go_wp2
      go_ret
      exact ⟨_, rfl, HO4.out, hg4w, HB4.out⟩
end Go.Proofs.YtkkmekdhejhapaaGreat

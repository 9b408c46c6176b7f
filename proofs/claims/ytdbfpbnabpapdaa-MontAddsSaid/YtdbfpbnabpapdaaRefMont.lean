/- What is proved here: contracts of the reference's Modulus, Element, Check, Twice and Plus. -/
import Derived.Test.YtdbfpbnabpapdaaMontRow
import Derived.Test.YtdbfpbnabpapdaaRefAdd
import Derived.Test.YtdbfpbnabpapdaaRefRem
import Derived.Test.YtdbfpbnabpapdaaRefMul
namespace Go.Proofs.Ytdbfpbnabpapdaa
open Go.RowKit

set_option maxHeartbeats 1000000 in
theorem refModulus_any (a : Option Addr) (n c : Nat) (ms : List Nat) (w : World) (hn : n ≤ c) (hm : c ≤ maxLen) (hv : View w a n ms) (r : Bool) (hr : r = true ↔ IsMod n ms) :
    Calls Try.prog 28 #[.slice a n c] w fun e w' => e = .returned (.bool r) ∧ w = w' := by
  by_cases h0 : n = 0
  · obtain rfl : r = false := by cases r; rfl; exact absurd (hr.1 rfl).1 (by omega)
    clear hr hv
    subst h0
    go_enter Try.func28, Try.ntmps28
    go_wp2
    go_ret
    exact ⟨rfl, rfl⟩
  · have h0' : (1 : Int) ≤ (n : Int) := by omega
    by_cases h8 : 8 < n
    · obtain rfl : r = false := by cases r; rfl; exact absurd (hr.1 rfl).2.1 (by omega)
      have h8' : ¬ (n : Int) ≤ 8 := by omega
      clear hr hv
      go_enter Try.func28, Try.ntmps28
      go_wp2
      go_ret
      exact ⟨rfl, rfl⟩
    · have h8' : (n : Int) ≤ 8 := by omega
      have HL := Lib.hid (lm0_odd hv.small)
      obtain ⟨b, off, rfl, _, hc⟩ := hv.cell 0 (by omega)
      rw [Nat.add_zero] at hc
      have hl := hv.lt 0
      have hnn : 0 < n := by omega
      generalize lm ms 0 = x at *
      by_cases hx : x % 2 = 1
      · have hx' : ((x : Int) % 2 == 1) = true := by simp; omega
        have HT := Lib.hid (take_short hv.len (by omega))
        go_enter Try.func28, Try.ntmps28
        go_wp2_with fail
        refine (refBits_any _ n c ms _ hn hm hv).mono ?_
        rintro e w' ⟨rfl, rfl⟩
        rw [HT.out]
        by_cases hb : 1 < nbits (val ms)
        · obtain rfl : r = true := hr.2 ⟨by omega, by omega, by rw [← HL.out]; exact hx, nbits_gt.1 hb⟩
          clear hr
          go_wp2
          go_ret
          exact ⟨ret_bool (decide_eq_true (by omega)), rfl⟩
        · obtain rfl : r = false := by cases r; rfl; exact absurd (nbits_gt.2 (hr.1 rfl).2.2.2) hb
          clear hr
          go_wp2
          go_ret
          exact ⟨ret_bool (decide_eq_false (by omega)), rfl⟩
      · have hx' : ((x : Int) % 2 == 1) = false := by simp; omega
        obtain rfl : r = false := by cases r; rfl; exact absurd (HL.out.trans (hr.1 rfl).2.2.1) hx
        clear hr HL hv hx
        go_enter Try.func28, Try.ntmps28
        go_wp2
        go_ret
        exact ⟨rfl, rfl⟩

set_option maxHeartbeats 400000 in
theorem refElement_any (a : Option Addr) (n c : Nat) (xs : List Nat) (a' : Option Addr) (n' c' : Nat) (ms : List Nat) (w : World) (hv : View w a n xs) (hv' : View w a' n' ms) (h16 : n' ≤ 16) (r : Bool) (hr : r = true ↔ IsElem n xs n' ms) :
    Calls Try.prog 29 #[.slice a n c, .slice a' n' c'] w fun e w' => e = .returned (.bool r) ∧ Below w.heap.size w w' := by
  by_cases h : n = n'
  · subst h
    have hb : ((n : Int) == (n : Int)) = true := by simp
    go_enter Try.func29, Try.ntmps29
    go_wp2_with fail
    refine (less_any _ n c xs _ c' ms _ (by omega) hv hv').mono ?_
    rintro e w' ⟨rfl, hb'⟩
    have HB := Lib.hid hb'
    have hq : ltB (val xs) (val ms) = r := by
      unfold ltB
      cases r
      · exact decide_eq_false fun g => by have := hr.2 ⟨rfl, g⟩; cases this
      · exact decide_eq_true (hr.1 rfl).2
    rw [hq]
    clear hq hr hb'
    go_wp2
    go_ret
    exact ⟨rfl, HB.out⟩
  · obtain rfl : r = false := by cases r; rfl; exact absurd (hr.1 rfl).1 h
    have hb : ((n : Int) == (n' : Int)) = false := by simp; omega
    clear hr hv hv' h
    go_enter Try.func29, Try.ntmps29
    go_wp2
    go_ret
    exact ⟨rfl, Below.refl _ _⟩

theorem true_iff_of' {p : Prop} (h : p) : true = true ↔ p := ⟨fun _ => h, fun _ => rfl⟩
theorem false_iff_of' {p : Prop} (h : ¬ p) : false = true ↔ p := ⟨fun e => (by cases e), fun g => absurd g h⟩

set_option maxHeartbeats 1000000 in
theorem refCheck_any (a : Option Addr) (n c : Nat) (xs : List Nat) (a' : Option Addr) (n' c' : Nat) (ys : List Nat) (am : Option Addr) (nm cm : Nat) (ms : List Nat) (w : World) (hnm : nm ≤ cm) (hmm : cm ≤ maxLen)
    (hv : View w a n xs) (hv' : View w a' n' ys) (hvm : View w am nm ms) (hg : IsMod nm ms ∧ IsElem n xs nm ms ∧ IsElem n' ys nm ms) :
    Calls Try.prog 13 #[.slice a n c, .slice a' n' c', .slice am nm cm] w fun e w' => e = .returned (.int .i64 0) ∧ Below w.heap.size w w' := by
  obtain ⟨h1, h2, h3⟩ := hg
  have h16 : nm ≤ 16 := by have := h1.2.1; omega
  have H1 := Lib.hid h1
  have H2 := Lib.hid h2
  have H3 := Lib.hid h3
  clear h1 h2 h3
  go_enter Try.func13, Try.ntmps13
  go_wp2_with fail
  refine (refModulus_any _ nm cm ms _ hnm hmm hvm true (true_iff_of' H1.out)).mono ?_
  rintro e w' ⟨rfl, rfl⟩
  go_wp2_with fail
  refine (refElement_any _ n c xs _ nm cm ms _ hv hvm h16 true (true_iff_of' H2.out)).mono ?_
  rintro e w1 ⟨rfl, hb1⟩
  have HB1 := Lib.hid hb1
  have u1 := Lib.hid (hv'.below (Nat.le_refl _) hb1)
  have u2 := Lib.hid (hvm.below (Nat.le_refl _) hb1)
  clear hb1
  go_wp2_with fail
  refine (refElement_any _ n' c' ys _ nm cm ms _ u1.out u2.out h16 true (true_iff_of' H3.out)).mono ?_
  rintro e w2 ⟨rfl, hb2⟩
  have HB2 := Lib.hid (below_then HB1.out hb2)
  clear hb2
  go_wp2
  go_ret
  exact ⟨rfl, HB2.out⟩

set_option maxHeartbeats 1000000 in
theorem refCheck_bad (a : Option Addr) (n c : Nat) (xs : List Nat) (a' : Option Addr) (n' c' : Nat) (ys : List Nat) (am : Option Addr) (nm cm : Nat) (ms : List Nat) (w : World) (hnm : nm ≤ cm) (hmm : cm ≤ maxLen)
    (hv : View w a n xs) (hv' : View w a' n' ys) (hvm : View w am nm ms) (hg : ¬ (IsMod nm ms ∧ IsElem n xs nm ms ∧ IsElem n' ys nm ms)) :
    Calls Try.prog 13 #[.slice a n c, .slice a' n' c', .slice am nm cm] w fun e w' => e = .returned (.int .i64 1) ∧ Below w.heap.size w w' := by
  by_cases h1 : IsMod nm ms
  · have h16 : nm ≤ 16 := by have := h1.2.1; omega
    by_cases h2 : IsElem n xs nm ms
    · have H1 := Lib.hid h1
      have H2 := Lib.hid h2
      have H3 := Lib.hid (show ¬ IsElem n' ys nm ms from fun h => hg ⟨h1, h2, h⟩)
      clear h1 h2 hg
      go_enter Try.func13, Try.ntmps13
      go_wp2_with fail
      refine (refModulus_any _ nm cm ms _ hnm hmm hvm true (true_iff_of' H1.out)).mono ?_
      rintro e w' ⟨rfl, rfl⟩
      go_wp2_with fail
      refine (refElement_any _ n c xs _ nm cm ms _ hv hvm h16 true (true_iff_of' H2.out)).mono ?_
      rintro e w1 ⟨rfl, hb1⟩
      have HB1 := Lib.hid hb1
      have u1 := Lib.hid (hv'.below (Nat.le_refl _) hb1)
      have u2 := Lib.hid (hvm.below (Nat.le_refl _) hb1)
      clear hb1
      go_wp2_with fail
      refine (refElement_any _ n' c' ys _ nm cm ms _ u1.out u2.out h16 false (false_iff_of' H3.out)).mono ?_
      rintro e w2 ⟨rfl, hb2⟩
      have HB2 := Lib.hid (below_then HB1.out hb2)
      clear hb2
      go_wp2
      go_ret
      exact ⟨rfl, HB2.out⟩
    · have H1 := Lib.hid h1
      have H2 := Lib.hid h2
      clear h1 h2 hg
      go_enter Try.func13, Try.ntmps13
      go_wp2_with fail
      refine (refModulus_any _ nm cm ms _ hnm hmm hvm true (true_iff_of' H1.out)).mono ?_
      rintro e w' ⟨rfl, rfl⟩
      go_wp2_with fail
      refine (refElement_any _ n c xs _ nm cm ms _ hv hvm h16 false (false_iff_of' H2.out)).mono ?_
      rintro e w1 ⟨rfl, hb1⟩
      have HB1 := Lib.hid hb1
      clear hb1
      go_wp2
      go_ret
      exact ⟨rfl, HB1.out⟩
  · have H1 := Lib.hid h1
    clear h1 hg
    go_enter Try.func13, Try.ntmps13
    go_wp2_with fail
    refine (refModulus_any _ nm cm ms _ hnm hmm hvm false (false_iff_of' H1.out)).mono ?_
    rintro e w' ⟨rfl, rfl⟩
    go_wp2
    go_ret
    exact ⟨rfl, Below.refl _ _⟩

/-- Less the modulus, where it goes once. -/
theorem red_row {K S M : Nat} (hS : S < 2 * M) (hM : M < 2 ^ (64 * K)) (h : M ≤ S) : row K (S % 2 ^ (64 * K) + 2 ^ (64 * K) - M) = row K (S % M) := by
  rw [← row_mod K (S % 2 ^ (64 * K) + 2 ^ (64 * K) - M)]
  congr 1
  rw [Nat.mod_eq_sub_mod h, Nat.mod_eq_of_lt (show S - M < M by omega)]
  generalize 2 ^ (64 * K) = R at *
  rcases Nat.lt_or_ge S R with g | g
  · rw [Nat.mod_eq_of_lt g, show S + R - M = S - M + R by omega, Nat.add_mod_right, Nat.mod_eq_of_lt (by omega)]
  · rw [Nat.mod_eq_sub_mod g, Nat.mod_eq_of_lt (show S - R < R by omega), show S - R + R - M = S - M by omega, Nat.mod_eq_of_lt (by omega)]

theorem carry_one {K S M : Nat} (hS : S < 2 * M) (hM : M < 2 ^ (64 * K)) : S / 2 ^ (64 * K) ≤ 1 ∧ (S / 2 ^ (64 * K) = 1 → M ≤ S) := by
  have hp := Nat.two_pow_pos (64 * K)
  generalize 2 ^ (64 * K) = R at *
  refine ⟨Nat.lt_succ_iff.1 (Nat.div_lt_of_lt_mul (by omega)), fun h => ?_⟩
  have := Nat.div_mul_le_self S R
  rw [h] at this
  omega

theorem carry_zero {K S : Nat} (h : S / 2 ^ (64 * K) = 0) : S < 2 ^ (64 * K) := by
  have hp := Nat.two_pow_pos (64 * K)
  exact (Nat.div_eq_zero_iff_lt hp).1 h

set_option maxHeartbeats 1000000 in
theorem refPlus_any (a : Option Addr) (n c : Nat) (xs : List Nat) (a' : Option Addr) (c' : Nat) (ys : List Nat) (am : Option Addr) (cm : Nat) (ms : List Nat) (w : World) (hn : n ≤ c) (hm : c ≤ maxLen) (hn' : n ≤ c') (hm' : c' ≤ maxLen) (hnm : n ≤ cm) (hmm : cm ≤ maxLen)
    (hv : View w a n xs) (hv' : View w a' n ys) (hvm : View w am n ms) (h8 : n ≤ 8) (hx : val xs < val ms) (hy : val ys < val ms) :
    Calls Try.prog 47 #[.slice a n c, .slice a' n c', .slice am n cm] w (Makes1 n ((val xs + val ys) % val ms) w) := by
  have pM := val_lt_of hvm.small (K := n) (by rw [hvm.len]; exact Nat.le_refl _)
  have hS : val xs + val ys < 2 * val ms := by omega
  obtain ⟨c1, c2⟩ := carry_one hS pM
  have t1 := take_short hv.len (by omega)
  have t2 := take_short hv'.len (by omega)
  have t3 := take_short hvm.len (by omega)
  have hmn : max (min n 16) (min n 16) = n := by omega
  have HR := Lib.hid (red_row hS pM)
  have C2 := Lib.hid c2
  have PM := Lib.hid pM
  have HS := Lib.hid hS
  clear c2 pM hS
  go_enter Try.func47, Try.ntmps47
  go_wp2_with fail
  refine (refAdd_any _ n c xs _ n c' ys _ hn hm hn' hm' hv hv').mono ?_
  rintro e w1 ⟨g, rfl, o1, hg, hb⟩
  rw [t1, t2, hmn] at o1
  rw [t1, t2, hmn]
  clear t1 t2 hn hm hn' hm'
  have um := hvm.below (Nat.le_refl _) hb
  have UM := Lib.hid um
  have O1 := Lib.hid o1
  have HG := Lib.hid hg
  have HB := Lib.hid hb
  clear um o1 hg hb
  generalize val xs + val ys = S at *
  have CZ := Lib.hid (@carry_zero n S)
  rcases Nat.le_one_iff_eq_zero_or_eq_one.1 c1 with hq | hq
  · have hlt := CZ.out hq
    have EV := Lib.hid (val_row_lt hlt)
    rw [hq]
    clear hq hlt CZ C2 c1
    go_wp2_with fail
    refine (less_any _ n _ (row n S) _ cm ms _ (by omega) O1.out.vrow UM.out).mono ?_
    rintro e w2 ⟨rfl, hb2⟩
    rw [EV.out]
    have O2 := Lib.hid (O1.out.below O1.out.lt hb2)
    have UM2 := Lib.hid (UM.out.below (Nat.le_refl _) hb2)
    have HB2 := Lib.hid (below_then HB.out hb2)
    clear hb2
    by_cases hS : S < val ms
    · rw [show ltB S (val ms) = true from decide_eq_true hS]
      have E := Lib.hid (Nat.mod_eq_of_lt hS)
      clear hS
      go_wp2
      go_ret
      exact ⟨g, rfl, by rw [E.out]; exact O2.out, HG.out, HB2.out⟩
    · rw [show ltB S (val ms) = false from decide_eq_false hS]
      have E := Lib.hid (HR.out (by omega))
      clear hS
      go_wp2_with fail
      refine (refSub_any _ n _ (row n S) _ n cm ms _ (Nat.le_refl _) (by unfold maxLen; omega) hnm hmm O2.out.vrow UM2.out).mono ?_
      rintro e w3 ⟨g3, rfl, o3, hg3, hb3⟩
      rw [take_short (length_row n S) (by omega), t3, hmn, val_row, E.out] at o3
      have O3 := Lib.hid o3
      have HG3 := Lib.hid (Nat.le_trans HB2.out.size hg3)
      have HB3 := Lib.hid (below_then HB2.out hb3)
      clear o3 hg3 hb3
      rw [hmn]
      go_wp2
      go_ret
      exact ⟨g3, rfl, O3.out, HG3.out, HB3.out⟩
  · have E := Lib.hid (HR.out (C2.out hq))
    rw [hq]
    clear hq CZ C2 c1
    go_wp2_with fail
    refine (refSub_any _ n _ (row n S) _ n cm ms _ (Nat.le_refl _) (by unfold maxLen; omega) hnm hmm O1.out.vrow UM.out).mono ?_
    rintro e w3 ⟨g3, rfl, o3, hg3, hb3⟩
    rw [take_short (length_row n S) (by omega), t3, hmn, val_row, E.out] at o3
    have O3 := Lib.hid o3
    have HG3 := Lib.hid (Nat.le_trans HB.out.size hg3)
    have HB3 := Lib.hid (below_then HB.out hb3)
    clear o3 hg3 hb3
    rw [hmn]
    go_wp2
    go_ret
    exact ⟨g3, rfl, O3.out, HG3.out, HB3.out⟩
end Go.Proofs.Ytdbfpbnabpapdaa

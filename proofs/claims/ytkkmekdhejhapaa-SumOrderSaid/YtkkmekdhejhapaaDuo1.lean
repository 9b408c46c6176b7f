/- What is proved here: contracts of fp.Add; contracts of fp.Sub and Neg; the contract of fp.Mul; the types api.Fp and api.Fp2 as rows of limbs; the calls of package fp and of its reference on them; arguments of these types are numbers; what package duo's Clean, Add, Sub, Neg, Mul, Inv and Conj and the reference's answer, by numbers; reckoning modulo p; alive. -/
import Derived.Test.YtkkmekdhejhapaaFpInv1
import Derived.Test.YtkkmekdhejhapaaComp
import Derived.Test.YtkkmekdhejhapaaAgg
import Derived.Test.YtkkmekdhejhapaaPow
import Derived.Test.YtkkmekdhejhapaaFpInv
import Derived.Test.YtkkmekdhejhapaaOwn
import Derived.Test.YtkkmekdhejhapaaCmp
import Derived.WalkSmall
import Derived.Deep.RegionHeld3
import Derived.Test.YtkkmekdhejhapaaMath
import Derived.Deep.CutBlock
import Derived.Test.YtkkmekdhejhapaaPut
import Derived.OpenShut
import Derived.ChangeOld
import Derived.ProofKit
import Derived.Test.YtkkmekdhejhapaaPrime
namespace Go.Proofs.Ytkkmekdhejhapaa
section
section
open Go.RowKit
theorem fpsum_lt {x y : Nat} (hx : x < pN) (hy : y < pN) : x + y < fpB := by have := fpM_two; omega
theorem fp_ltE {x : Nat} (h : x < fpB) : x < 2 ^ (64 * 6) := Nat.lt_of_lt_of_eq h fpB_eq
set_option maxRecDepth 20000 in
set_option maxHeartbeats 4000000 in
theorem fpAdd_v (a b : Nat) (w : World) (ha : a < fpB) (hb : b < fpB) (v : Nat) (hv : v = (a + b) % pN) :
    Calls Try.prog 34 #[fpV a, fpV b] w (Is (fpV v) w) := by
  obtain ⟨x, hx⟩ : ∃ x, x = a % pN := ⟨_, rfl⟩
  obtain ⟨y, hy⟩ : ∃ y, y = b % pN := ⟨_, rfl⟩
  have HXM := Lib.hid (show x < pN by rw [hx]; exact fpM_mod a)
  have HYM := Lib.hid (show y < pN by rw [hy]; exact fpM_mod b)
  have HXB := Lib.hid (Nat.lt_trans HXM.out fpM_lt)
  have HYB := Lib.hid (Nat.lt_trans HYM.out fpM_lt)
  obtain ⟨s, hs⟩ : ∃ s, s = x + y := ⟨_, rfl⟩
  have HSB := Lib.hid (show s < fpB by rw [hs]; exact fpsum_lt HXM.out HYM.out)
  have HS := Lib.hid hs
  have HV := Lib.hid (show v = s % pN by rw [hv, hs, hx, hy, ← Nat.add_mod])
  clear hs hv
  have HX := Lib.hid hx
  have HY := Lib.hid hy
  have HA := Lib.hid ha
  have HB := Lib.hid hb
  obtain ⟨w3, hw3, a1, a2, a3, hb0, hsz⟩ := fp_lay_vvz 26 w a b
  have HW := Lib.hid hw3
  have A1 := Lib.hid a1
  have A2 := Lib.hid a2
  have A3 := Lib.hid a3
  have HB0 := Lib.hid hb0
  clear hx hy ha hb hw3 a1 a2 a3 hb0 hsz
  go_enter Try.func34, Try.ntmps34
  go_wp2_with fail
  rw [HW.out]
  clear HW
  have c0 : w3.drew.cell? ⟨w.heap.size, 0, none⟩ = _ := A1.out.fpc0
  have c1 : w3.drew.cell? ⟨w.heap.size, 1, none⟩ = _ := A1.out.fpc1
  have c2 : w3.drew.cell? ⟨w.heap.size, 2, none⟩ = _ := A1.out.fpc2
  have c3 : w3.drew.cell? ⟨w.heap.size, 3, none⟩ = _ := A1.out.fpc3
  have c4 : w3.drew.cell? ⟨w.heap.size, 4, none⟩ = _ := A1.out.fpc4
  have c5 : w3.drew.cell? ⟨w.heap.size, 5, none⟩ = _ := A1.out.fpc5
  have d0 : w3.drew.cell? ⟨w.heap.size + 1, 0, none⟩ = _ := A2.out.fpc0
  have d1 : w3.drew.cell? ⟨w.heap.size + 1, 1, none⟩ = _ := A2.out.fpc1
  have d2 : w3.drew.cell? ⟨w.heap.size + 1, 2, none⟩ = _ := A2.out.fpc2
  have d3 : w3.drew.cell? ⟨w.heap.size + 1, 3, none⟩ = _ := A2.out.fpc3
  have d4 : w3.drew.cell? ⟨w.heap.size + 1, 4, none⟩ = _ := A2.out.fpc4
  have d5 : w3.drew.cell? ⟨w.heap.size + 1, 5, none⟩ = _ := A2.out.fpc5
  go_region_with (go_at_call 52; first
    | ((with_reducible refine (fpClean_v a _ HA.out x HX.out).mono ?_); rintro e Y1 ⟨rfl, hb1⟩; have hb1' : Below w3.heap.size w3 Y1 := (Below.refl w3.heap.size w3).drew.trans hb1; have k0 := (A2.out.keep hb1').fpc0; have k1 := (A2.out.keep hb1').fpc1; have k2 := (A2.out.keep hb1').fpc2; have k3 := (A2.out.keep hb1').fpc3; have k4 := (A2.out.keep hb1').fpc4; have k5 := (A2.out.keep hb1').fpc5; have HB1 := Lib.hid hb1'; clear hb1 hb1')
    | ((with_reducible refine (fpClean_v b _ HB.out y HY.out).mono ?_); rintro e Y2 ⟨rfl, hb2⟩; have hb2' : Below w3.heap.size w3 Y2 := below_then HB1.out hb2; have p1 := A1.out.keep hb2'; have p2 := A2.out.keep hb2'; have l0 := p1.fpc0; have l1 := p1.fpc1; have l2 := p1.fpc2; have l3 := p1.fpc3; have l4 := p1.fpc4; have l5 := p1.fpc5; have m0 := p2.fpc0; have m1 := p2.fpc1; have m2 := p2.fpc2; have m3 := p2.fpc3; have m4 := p2.fpc4; have m5 := p2.fpc5; have q0 := p1.frozen 0; have q1 := p1.frozen 1; have q2 := p1.frozen 2; have q3 := p1.frozen 3; have q4 := p1.frozen 4; have q5 := p1.frozen 5; have s0 := p2.frozen 0; have s1 := p2.frozen 1; have s2 := p2.frozen 2; have s3 := p2.frozen 3; have s4 := p2.frozen 4; have s5 := p2.frozen 5; have P1 := Lib.hid p1; have P2 := Lib.hid p2; have HB2 := Lib.hid hb2'; clear hb2 hb2' p1 p2))
  all_goals
    obtain ⟨W, hW, o1, o2, oo, ob, osz⟩ := fp_two P1.out P2.out (by omega : w.heap.size ≠ w.heap.size + 1) x y
    have hp3 : w.heap.size + 1 + 1 < w3.heap.size := A3.out.lt
    have O1 := Lib.hid o1
    have O2 := Lib.hid o2
    have O3 := Lib.hid (oo _ _ _ (by omega : w.heap.size + 1 + 1 ≠ w.heap.size) (by omega : w.heap.size + 1 + 1 ≠ w.heap.size + 1) (A3.out.keep HB2.out))
    have OB := Lib.hid (ob _ _ (below_then HB0.out HB2.out) (Nat.le_refl _) (Nat.le_succ _))
    have HW := Lib.hid hW
    clear hW o1 o2 oo ob osz P1 P2 HB1 HB2 hp3
    go_wp2_with fail
    rw [HW.out]
    clear HW c0 c1 c2 c3 c4 c5 d0 d1 d2 d3 d4 d5 k0 k1 k2 k3 k4 k5 l0 l1 l2 l3 l4 l5 m0 m1 m2 m3 m4 m5 q0 q1 q2 q3 q4 q5 s0 s1 s2 s3 s4 s5
    go_region_with (go_at_call 29; refine (natAdd_of _ _ x y _ (by decide) (fp_ltE HXB.out) (fp_ltE HYB.out) O1.out.vrow.drew O2.out.vrow.drew).mono ?_; rintro e w4 ⟨g, cc, rfl, ho, hg, hb4⟩; have hb4' : Below W.heap.size W w4 := (Below.refl W.heap.size W).drew.trans hb4; rw [← HS.out] at ho; have V4 := Lib.hid ho.vrow; have Z4 := Lib.hid (O3.out.keep hb4'); have HB4 := Lib.hid (below_then OB.out hb4'); clear ho hg hb4 hb4')
    all_goals
      go_wp2_with fail
      refine (fpnumber_v _ 6 6 s _ rfl V4.out).mono ?_
      rintro e w5 ⟨rfl, hb5⟩
      have Z5 := Lib.hid (Z4.out.keep hb5)
      have HB5 := Lib.hid (below_then HB4.out hb5)
      clear hb5
      go_wp2_with fail
      refine (fpClean_v s _ HSB.out v HV.out).mono ?_
      rintro e w6 ⟨rfl, hb6⟩
      have ZE := Z5.out.keep hb6
      have m0 := ZE.fpc0
      have m1 := ZE.fpc1
      have m2 := ZE.fpc2
      have m3 := ZE.fpc3
      have m4 := ZE.fpc4
      have m5 := ZE.fpc5
      have q0 := ZE.frozen 0
      have q1 := ZE.frozen 1
      have q2 := ZE.frozen 2
      have q3 := ZE.frozen 3
      have q4 := ZE.frozen 4
      have q5 := ZE.frozen 5
      have HBE := Lib.hid (below_then HB5.out hb6)
      clear hb6 ZE
      go_wp2
      refine bodyPost_ret (v := fpV v) (by simp [results, Try.results34, go_sem, m0, m1, m2, m3, m4, m5]) rfl ⟨rfl, ?_⟩
      exact fp_below HBE.out (by omega) _ _ _ _ _ _
end

section
open Go.RowKit
theorem fpSub_ge {a b v x y : Nat} (hx : x = a % pN) (hy : y = b % pN) (hv : v = (a + (pN - b % pN)) % pN) (h : y ≤ x) : v = x - y := by
  have h1 := fpM_mod a
  have h2 := fpM_mod b
  have h0 := fpM_pos
  rw [← hy] at h2
  rw [← hx] at h1
  rw [hv, ← hy, Nat.add_mod, ← hx]
  generalize pN = m at *
  rcases Nat.eq_zero_or_pos y with e | e
  · subst e
    rw [Nat.sub_zero, Nat.mod_self, Nat.add_zero, Nat.mod_eq_of_lt h1]
    rfl
  · rw [Nat.mod_eq_of_lt (show m - y < m by omega), show x + (m - y) = (x - y) + m by omega, Nat.add_mod_right, Nat.mod_eq_of_lt (by omega)]
theorem fpSub_lt {a b v x y : Nat} (hx : x = a % pN) (hy : y = b % pN) (hv : v = (a + (pN - b % pN)) % pN) (h : x < y) : v = x + pN - y := by
  have h2 := fpM_mod b
  rw [← hy] at h2
  rw [hv, ← hy, Nat.add_mod, ← hx]
  generalize pN = m at *
  rw [Nat.mod_eq_of_lt (show m - y < m by omega), show x + (m - y) = x + m - y by omega, Nat.mod_eq_of_lt (by omega)]
theorem fpSub_lim {x y : Nat} (h : x < y) (hy : y < fpB) : x + 2 ^ (64 * 6) - y < 2 ^ (64 * 6) := by
  have := fp_ltE hy
  revert this
  generalize 2 ^ (64 * 6) = P
  omega
set_option maxRecDepth 20000 in
set_option maxHeartbeats 4000000 in
theorem fpSub_v (a b : Nat) (w : World) (ha : a < fpB) (hb : b < fpB) (v : Nat) (hv : v = (a + (pN - b % pN)) % pN) :
    Calls Try.prog 46 #[fpV a, fpV b] w (Is (fpV v) w) := by
  obtain ⟨x, hx⟩ : ∃ x, x = a % pN := ⟨_, rfl⟩
  obtain ⟨y, hy⟩ : ∃ y, y = b % pN := ⟨_, rfl⟩
  have HXM := Lib.hid (show x < pN by rw [hx]; exact fpM_mod a)
  have HYM := Lib.hid (show y < pN by rw [hy]; exact fpM_mod b)
  have HXB := Lib.hid (Nat.lt_trans HXM.out fpM_lt)
  have HYB := Lib.hid (Nat.lt_trans HYM.out fpM_lt)
  have HG := Lib.hid (fun h => fpSub_ge hx hy hv h)
  have HL := Lib.hid (fun h => fpSub_lt hx hy hv h)
  clear hv
  have HX := Lib.hid hx
  have HY := Lib.hid hy
  have HA := Lib.hid ha
  have HB := Lib.hid hb
  obtain ⟨w3, hw3, a1, a2, a3, hb0, hsz⟩ := fp_lay_vvz 26 w a b
  have HW := Lib.hid hw3
  have A1 := Lib.hid a1
  have A2 := Lib.hid a2
  have A3 := Lib.hid a3
  have HB0 := Lib.hid hb0
  clear hx hy ha hb hw3 a1 a2 a3 hb0 hsz
  go_enter Try.func46, Try.ntmps46
  go_wp2_with fail
  rw [HW.out]
  clear HW
  have c0 : w3.drew.cell? ⟨w.heap.size, 0, none⟩ = _ := A1.out.fpc0
  have c1 : w3.drew.cell? ⟨w.heap.size, 1, none⟩ = _ := A1.out.fpc1
  have c2 : w3.drew.cell? ⟨w.heap.size, 2, none⟩ = _ := A1.out.fpc2
  have c3 : w3.drew.cell? ⟨w.heap.size, 3, none⟩ = _ := A1.out.fpc3
  have c4 : w3.drew.cell? ⟨w.heap.size, 4, none⟩ = _ := A1.out.fpc4
  have c5 : w3.drew.cell? ⟨w.heap.size, 5, none⟩ = _ := A1.out.fpc5
  have d0 : w3.drew.cell? ⟨w.heap.size + 1, 0, none⟩ = _ := A2.out.fpc0
  have d1 : w3.drew.cell? ⟨w.heap.size + 1, 1, none⟩ = _ := A2.out.fpc1
  have d2 : w3.drew.cell? ⟨w.heap.size + 1, 2, none⟩ = _ := A2.out.fpc2
  have d3 : w3.drew.cell? ⟨w.heap.size + 1, 3, none⟩ = _ := A2.out.fpc3
  have d4 : w3.drew.cell? ⟨w.heap.size + 1, 4, none⟩ = _ := A2.out.fpc4
  have d5 : w3.drew.cell? ⟨w.heap.size + 1, 5, none⟩ = _ := A2.out.fpc5
  go_region_with (go_at_call 52; first
    | ((with_reducible refine (fpClean_v a _ HA.out x HX.out).mono ?_); rintro e Y1 ⟨rfl, hb1⟩; have hb1' : Below w3.heap.size w3 Y1 := (Below.refl w3.heap.size w3).drew.trans hb1; have k0 := (A2.out.keep hb1').fpc0; have k1 := (A2.out.keep hb1').fpc1; have k2 := (A2.out.keep hb1').fpc2; have k3 := (A2.out.keep hb1').fpc3; have k4 := (A2.out.keep hb1').fpc4; have k5 := (A2.out.keep hb1').fpc5; have HB1 := Lib.hid hb1'; clear hb1 hb1')
    | ((with_reducible refine (fpClean_v b _ HB.out y HY.out).mono ?_); rintro e Y2 ⟨rfl, hb2⟩; have hb2' : Below w3.heap.size w3 Y2 := below_then HB1.out hb2; have p1 := A1.out.keep hb2'; have p2 := A2.out.keep hb2'; have l0 := p1.fpc0; have l1 := p1.fpc1; have l2 := p1.fpc2; have l3 := p1.fpc3; have l4 := p1.fpc4; have l5 := p1.fpc5; have m0 := p2.fpc0; have m1 := p2.fpc1; have m2 := p2.fpc2; have m3 := p2.fpc3; have m4 := p2.fpc4; have m5 := p2.fpc5; have q0 := p1.frozen 0; have q1 := p1.frozen 1; have q2 := p1.frozen 2; have q3 := p1.frozen 3; have q4 := p1.frozen 4; have q5 := p1.frozen 5; have s0 := p2.frozen 0; have s1 := p2.frozen 1; have s2 := p2.frozen 2; have s3 := p2.frozen 3; have s4 := p2.frozen 4; have s5 := p2.frozen 5; have P1 := Lib.hid p1; have P2 := Lib.hid p2; have HB2 := Lib.hid hb2'; clear hb2 hb2' p1 p2))
  all_goals
    obtain ⟨W, hW, o1, o2, oo, ob, osz⟩ := fp_two P1.out P2.out (by omega : w.heap.size ≠ w.heap.size + 1) x y
    have hp3 : w.heap.size + 1 + 1 < w3.heap.size := A3.out.lt
    have O1 := Lib.hid o1
    have O2 := Lib.hid o2
    have O3 := Lib.hid (oo _ _ _ (by omega : w.heap.size + 1 + 1 ≠ w.heap.size) (by omega : w.heap.size + 1 + 1 ≠ w.heap.size + 1) (A3.out.keep HB2.out))
    have OB := Lib.hid (ob _ _ (below_then HB0.out HB2.out) (Nat.le_refl _) (Nat.le_succ _))
    have HW := Lib.hid hW
    clear hW o1 o2 oo ob osz P1 P2 HB1 HB2 hp3
    go_wp2_with fail
    rw [HW.out]
    clear HW c0 c1 c2 c3 c4 c5 d0 d1 d2 d3 d4 d5 k0 k1 k2 k3 k4 k5 l0 l1 l2 l3 l4 l5 m0 m1 m2 m3 m4 m5 q0 q1 q2 q3 q4 q5 s0 s1 s2 s3 s4 s5
    by_cases hc : y ≤ x
    · have HV := Lib.hid (HG.out hc)
      have HC := Lib.hid hc
      clear HG HL hc
      go_region_with (go_at_call 72; refine (natSub_ge _ _ x y _ (by decide) (fp_ltE HXB.out) (fp_ltE HYB.out) O1.out.vrow.drew O2.out.vrow.drew HC.out).mono ?_; rintro e w4 ⟨g, rfl, ho, hg, hb4⟩; have hb4' : Below W.heap.size W w4 := (Below.refl W.heap.size W).drew.trans hb4; rw [← HV.out] at ho; have V4 := Lib.hid ho.vrow; have Z4 := Lib.hid (O3.out.keep hb4'); have HB4 := Lib.hid (below_then OB.out hb4'); clear ho hg hb4 hb4')
      all_goals
        go_wp2_with fail
        refine (fpnumber_v _ 6 6 v _ rfl V4.out).mono ?_
        rintro e w5 ⟨rfl, hb5⟩
        have ZE := Z4.out.keep hb5
        have m0 := ZE.fpc0
        have m1 := ZE.fpc1
        have m2 := ZE.fpc2
        have m3 := ZE.fpc3
        have m4 := ZE.fpc4
        have m5 := ZE.fpc5
        have q0 := ZE.frozen 0
        have q1 := ZE.frozen 1
        have q2 := ZE.frozen 2
        have q3 := ZE.frozen 3
        have q4 := ZE.frozen 4
        have q5 := ZE.frozen 5
        have HBE := Lib.hid (below_then HB4.out hb5)
        clear hb5 ZE
        go_wp2
        refine bodyPost_ret (v := fpV v) (by simp [results, Try.results46, go_sem, m0, m1, m2, m3, m4, m5]) rfl ⟨rfl, ?_⟩
        exact fp_below HBE.out (by omega) _ _ _ _ _ _
    · have hc' : x < y := by omega
      have HV := Lib.hid (HL.out hc')
      have HC := Lib.hid hc'
      have HQ := Lib.hid (row_sub_add (K := 6) HV.out (Nat.le_of_lt HYM.out) (fp_ltE HYB.out))
      have HQL := Lib.hid (fpSub_lim HC.out HYB.out)
      obtain ⟨d, hd⟩ : ∃ d, d = x + 2 ^ (64 * 6) - y := ⟨_, rfl⟩
      rw [← hd] at HQ HQL
      have HD := Lib.hid hd
      clear HG HL hc hc' hd
      go_region_with (go_at_call 72; refine (natSub_lt _ _ x y _ (by decide) (fp_ltE HXB.out) (fp_ltE HYB.out) O1.out.vrow.drew O2.out.vrow.drew HC.out).mono ?_; rintro e w4 ⟨g, rfl, ho, hg, hb4⟩; have hb4' : Below W.heap.size W w4 := (Below.refl W.heap.size W).drew.trans hb4; rw [← HD.out] at ho; have V4 := Lib.hid ho.vrow; have Z4 := Lib.hid (O3.out.keep hb4'); have HB4 := Lib.hid (below_then OB.out hb4'); clear ho hg hb4 hb4')
      all_goals
        go_wp2_with fail
        refine (fpmodulus_v _).mono ?_
        rintro e w5 ⟨rfl, hb5⟩
        obtain ⟨w6, hw6, a6, hb6, hs6⟩ := fp_lay_v 26 w5 pN
        have HW6 := Lib.hid hw6
        have V5 := Lib.hid ((V4.out.below (Nat.le_refl _) hb5).below (Nat.le_refl _) hb6)
        have V6 := Lib.hid a6.vrow
        have Z6 := Lib.hid ((Z4.out.keep hb5).keep hb6)
        have HB6 := Lib.hid (below_then HB4.out (below_then hb5 hb6))
        clear hw6 a6 hb5 hb6 hs6 V4 Z4 HB4
        go_wp2_with fail
        rw [HW6.out]
        refine (natAdd_of _ _ d pN _ (by decide) HQL.out (fp_ltE fpM_lt) V5.out V6.out).mono ?_
        rintro e w7 ⟨g7, cc, rfl, ho7, hg7, hb7⟩
        rw [HQ.out] at ho7
        have V7 := Lib.hid ho7.vrow
        have Z7 := Lib.hid (Z6.out.keep hb7)
        have HB7 := Lib.hid (below_then HB6.out hb7)
        clear ho7 hg7 hb7 HW6
        go_wp2_with fail
        refine (fpnumber_v _ 6 6 v _ rfl V7.out).mono ?_
        rintro e w8 ⟨rfl, hb8⟩
        have ZE := Z7.out.keep hb8
        have m0 := ZE.fpc0
        have m1 := ZE.fpc1
        have m2 := ZE.fpc2
        have m3 := ZE.fpc3
        have m4 := ZE.fpc4
        have m5 := ZE.fpc5
        have q0 := ZE.frozen 0
        have q1 := ZE.frozen 1
        have q2 := ZE.frozen 2
        have q3 := ZE.frozen 3
        have q4 := ZE.frozen 4
        have q5 := ZE.frozen 5
        have HBE := Lib.hid (below_then HB7.out hb8)
        clear hb8 ZE
        go_wp2
        refine bodyPost_ret (v := fpV v) (by simp [results, Try.results46, go_sem, m0, m1, m2, m3, m4, m5]) rfl ⟨rfl, ?_⟩
        exact fp_below HBE.out (by omega) _ _ _ _ _ _
end
end

section
section
open Go.RowKit
theorem fpisMod : IsMod 6 (row 6 pN) := ⟨by decide, by decide, by rw [fpval_M]; exact fpM_odd, by rw [fpval_M]; decide +kernel⟩
def fpPart (x y : Nat) : Nat := fromOf pN (64 * 6) (x * y % pN)
theorem fpPart_lt (x y : Nat) : fpPart x y < pN := fromOf_lt fpM_odd (fpM_mod _) _
theorem fppart_back {M k x y S : Nat} (hM : M % 2 = 1) (h0 : 0 < M) (hS : S = 2 ^ k * 2 ^ k % M) : fromOf M k (fromOf M k (x * y % M) * S % M) = x * y % M := by
  refine (fromOf_eq hM (Nat.mod_lt _ h0) (Nat.mod_lt _ h0) ?_).symm
  have h := fromOf_pow (M := M) hM (Nat.mod_lt (x * y) h0) k
  rw [hS, Nat.mul_mod_mod, ← Nat.mul_assoc, Nat.mul_mod (fromOf M k (x * y % M) * 2 ^ k), h, ← Nat.mul_mod, Nat.mod_mul_mod]
theorem fpPart_back (x y : Nat) : fromOf pN (64 * 6) (fpPart x y * fpSq % pN) = x * y % pN := fppart_back fpM_odd fpM_pos fpSq_eq
set_option maxRecDepth 20000 in
set_option maxHeartbeats 4000000 in
theorem fpMul_v (a b : Nat) (w : World) (ha : a < fpB) (hb : b < fpB) (v : Nat) (hv : v = a * b % pN) :
    Calls Try.prog 33 #[fpV a, fpV b] w (Is (fpV v) w) := by
  obtain ⟨x, hx⟩ : ∃ x, x = a % pN := ⟨_, rfl⟩
  obtain ⟨y, hy⟩ : ∃ y, y = b % pN := ⟨_, rfl⟩
  have HXM := Lib.hid (show x < pN by rw [hx]; exact fpM_mod a)
  have HYM := Lib.hid (show y < pN by rw [hy]; exact fpM_mod b)
  have HXB := Lib.hid (Nat.lt_trans HXM.out fpM_lt)
  have HYB := Lib.hid (Nat.lt_trans HYM.out fpM_lt)
  obtain ⟨d, hd⟩ : ∃ d, d = fpPart x y := ⟨_, rfl⟩
  have HDM := Lib.hid (show d < pN by rw [hd]; exact fpPart_lt x y)
  have HDB := Lib.hid (Nat.lt_trans HDM.out fpM_lt)
  have HD := Lib.hid (show fromOf (val (row 6 pN)) (64 * 6) (val (row 6 x) * val (row 6 y) % val (row 6 pN)) = d by rw [fpval HXB.out, fpval HYB.out, fpval_M, hd]; rfl)
  have HV := Lib.hid (show fromOf (val (row 6 pN)) (64 * 6) (val (row 6 d) * val (row 6 fpSq) % val (row 6 pN)) = v by rw [fpval HDB.out, fpval fpSq_ltB, fpval_M, hd, fpPart_back, hv, hx, hy, ← Nat.mul_mod])
  have HXV := Lib.hid (show val (row 6 x) < val (row 6 pN) by rw [fpval HXB.out, fpval_M]; exact HXM.out)
  have HYV := Lib.hid (show val (row 6 y) < val (row 6 pN) by rw [fpval HYB.out, fpval_M]; exact HYM.out)
  have HDV := Lib.hid (show val (row 6 d) < val (row 6 pN) by rw [fpval HDB.out, fpval_M]; exact HDM.out)
  have HQV := Lib.hid (show val (row 6 fpSq) < val (row 6 pN) by rw [fpval fpSq_ltB, fpval_M]; exact fpSq_lt)
  clear hd hv
  have HX := Lib.hid hx
  have HY := Lib.hid hy
  have HA := Lib.hid ha
  have HB := Lib.hid hb
  obtain ⟨w3, hw3, a1, a2, a3, hb0, hsz⟩ := fp_lay_vvz 26 w a b
  have HW := Lib.hid hw3
  have A1 := Lib.hid a1
  have A2 := Lib.hid a2
  have A3 := Lib.hid a3
  have HB0 := Lib.hid hb0
  clear hx hy ha hb hw3 a1 a2 a3 hb0 hsz
  go_enter Try.func33, Try.ntmps33
  go_wp2_with fail
  rw [HW.out]
  clear HW
  have c0 : w3.drew.cell? ⟨w.heap.size, 0, none⟩ = _ := A1.out.fpc0
  have c1 : w3.drew.cell? ⟨w.heap.size, 1, none⟩ = _ := A1.out.fpc1
  have c2 : w3.drew.cell? ⟨w.heap.size, 2, none⟩ = _ := A1.out.fpc2
  have c3 : w3.drew.cell? ⟨w.heap.size, 3, none⟩ = _ := A1.out.fpc3
  have c4 : w3.drew.cell? ⟨w.heap.size, 4, none⟩ = _ := A1.out.fpc4
  have c5 : w3.drew.cell? ⟨w.heap.size, 5, none⟩ = _ := A1.out.fpc5
  have d0 : w3.drew.cell? ⟨w.heap.size + 1, 0, none⟩ = _ := A2.out.fpc0
  have d1 : w3.drew.cell? ⟨w.heap.size + 1, 1, none⟩ = _ := A2.out.fpc1
  have d2 : w3.drew.cell? ⟨w.heap.size + 1, 2, none⟩ = _ := A2.out.fpc2
  have d3 : w3.drew.cell? ⟨w.heap.size + 1, 3, none⟩ = _ := A2.out.fpc3
  have d4 : w3.drew.cell? ⟨w.heap.size + 1, 4, none⟩ = _ := A2.out.fpc4
  have d5 : w3.drew.cell? ⟨w.heap.size + 1, 5, none⟩ = _ := A2.out.fpc5
  go_region_with (go_at_call 52; first
    | ((with_reducible refine (fpClean_v a _ HA.out x HX.out).mono ?_); rintro e Y1 ⟨rfl, hb1⟩; have hb1' : Below w3.heap.size w3 Y1 := (Below.refl w3.heap.size w3).drew.trans hb1; have k0 := (A2.out.keep hb1').fpc0; have k1 := (A2.out.keep hb1').fpc1; have k2 := (A2.out.keep hb1').fpc2; have k3 := (A2.out.keep hb1').fpc3; have k4 := (A2.out.keep hb1').fpc4; have k5 := (A2.out.keep hb1').fpc5; have HB1 := Lib.hid hb1'; clear hb1 hb1')
    | ((with_reducible refine (fpClean_v b _ HB.out y HY.out).mono ?_); rintro e Y2 ⟨rfl, hb2⟩; have hb2' : Below w3.heap.size w3 Y2 := below_then HB1.out hb2; have p1 := A1.out.keep hb2'; have p2 := A2.out.keep hb2'; have l0 := p1.fpc0; have l1 := p1.fpc1; have l2 := p1.fpc2; have l3 := p1.fpc3; have l4 := p1.fpc4; have l5 := p1.fpc5; have m0 := p2.fpc0; have m1 := p2.fpc1; have m2 := p2.fpc2; have m3 := p2.fpc3; have m4 := p2.fpc4; have m5 := p2.fpc5; have q0 := p1.frozen 0; have q1 := p1.frozen 1; have q2 := p1.frozen 2; have q3 := p1.frozen 3; have q4 := p1.frozen 4; have q5 := p1.frozen 5; have s0 := p2.frozen 0; have s1 := p2.frozen 1; have s2 := p2.frozen 2; have s3 := p2.frozen 3; have s4 := p2.frozen 4; have s5 := p2.frozen 5; have P1 := Lib.hid p1; have P2 := Lib.hid p2; have HB2 := Lib.hid hb2'; clear hb2 hb2' p1 p2))
  all_goals
    obtain ⟨W, hW, o1, o2, oo, ob, osz⟩ := fp_two P1.out P2.out (by omega : w.heap.size ≠ w.heap.size + 1) x y
    have hp3 : w.heap.size + 1 + 1 < w3.heap.size := A3.out.lt
    have O1 := Lib.hid o1
    have O2 := Lib.hid o2
    have O3 := Lib.hid (oo _ _ _ (by omega : w.heap.size + 1 + 1 ≠ w.heap.size) (by omega : w.heap.size + 1 + 1 ≠ w.heap.size + 1) (A3.out.keep HB2.out))
    have OB := Lib.hid (ob _ _ (below_then HB0.out HB2.out) (Nat.le_refl _) (Nat.le_succ _))
    have HW := Lib.hid hW
    clear hW o1 o2 oo ob osz P1 P2 HB1 HB2 hp3
    go_wp2_with fail
    rw [HW.out]
    clear HW c0 c1 c2 c3 c4 c5 d0 d1 d2 d3 d4 d5 k0 k1 k2 k3 k4 k5 l0 l1 l2 l3 l4 l5 m0 m1 m2 m3 m4 m5 q0 q1 q2 q3 q4 q5 s0 s1 s2 s3 s4 s5
    refine (fpmodulus_v _).mono ?_
    rintro e w4 ⟨rfl, hb4⟩
    have U1 := Lib.hid (O1.out.keep hb4)
    have U2 := Lib.hid (O2.out.keep hb4)
    have U3 := Lib.hid (O3.out.keep hb4)
    have UB := Lib.hid (below_then OB.out hb4)
    clear hb4 O1 O2 O3 OB
    go_wp2_with fail
    refine (fpsquare_v _).mono ?_
    rintro e w5 ⟨rfl, hb5⟩
    obtain ⟨w6, hw6, a6, b6, hb6, hs6⟩ := fp_lay_vv 26 w5 pN fpSq
    have HW6 := Lib.hid hw6
    have X1 := Lib.hid ((U1.out.keep hb5).keep hb6).vrow
    have X2 := Lib.hid ((U2.out.keep hb5).keep hb6).vrow
    have X3 := Lib.hid ((U3.out.keep hb5).keep hb6)
    have X4 := Lib.hid a6.vrow
    have X5 := Lib.hid b6.vrow
    have XB := Lib.hid (below_then UB.out (below_then hb5 hb6))
    clear hw6 a6 b6 hb5 hb6 hs6 U1 U2 U3 UB
    go_wp2_with fail
    rw [HW6.out]
    clear HW6
    go_region_with (go_at_call 54; refine (montMul_any _ 6 _ _ 6 _ _ 6 6 _ _ (by decide) (by decide) (by decide) (by decide) (by decide) (by decide) X1.out.drew X2.out.drew X4.out.drew fpisMod HXV.out HYV.out).mono ?_; rintro e w7 ⟨g7, rfl, ho7, hg7, hb7⟩; have hb7' : Below w6.heap.size w6 w7 := (Below.refl w6.heap.size w6).drew.trans hb7; rw [HD.out] at ho7; have D1 := Lib.hid ho7.vrow; have D3 := Lib.hid (X3.out.keep hb7'); have D4 := Lib.hid (X4.out.below (Nat.le_refl _) hb7'); have D5 := Lib.hid (X5.out.below (Nat.le_refl _) hb7'); have DB := Lib.hid (below_then XB.out hb7'); clear ho7 hg7 hb7 hb7')
    all_goals
      clear X1 X2 X3 X4 X5 XB
      go_wp2_with fail
      go_region_with (go_at_call 54; refine (montMul_any _ 6 _ _ 6 _ _ 6 6 _ _ (by decide) (by decide) (by decide) (by decide) (by decide) (by decide) D1.out.drew D5.out.drew D4.out.drew fpisMod HDV.out HQV.out).mono ?_; rintro e w8 ⟨g8, rfl, ho8, hg8, hb8⟩; have hb8' : Below w7.heap.size w7 w8 := (Below.refl w7.heap.size w7).drew.trans hb8; rw [HV.out] at ho8; have E1 := Lib.hid ho8.vrow; have E3 := Lib.hid (D3.out.keep hb8'); have EB := Lib.hid (below_then DB.out hb8'); clear ho8 hg8 hb8 hb8')
      all_goals
        clear D1 D3 D4 D5 DB
        go_wp2_with fail
        refine (fpnumber_v _ 6 6 v _ rfl E1.out).mono ?_
        rintro e w9 ⟨rfl, hb9⟩
        have ZE := E3.out.keep hb9
        have m0 := ZE.fpc0
        have m1 := ZE.fpc1
        have m2 := ZE.fpc2
        have m3 := ZE.fpc3
        have m4 := ZE.fpc4
        have m5 := ZE.fpc5
        have q0 := ZE.frozen 0
        have q1 := ZE.frozen 1
        have q2 := ZE.frozen 2
        have q3 := ZE.frozen 3
        have q4 := ZE.frozen 4
        have q5 := ZE.frozen 5
        have HBE := Lib.hid (below_then EB.out hb9)
        clear hb9 ZE
        go_wp2
        refine bodyPost_ret (v := fpV v) (by simp [results, Try.results33, go_sem, m0, m1, m2, m3, m4, m5]) rfl ⟨rfl, ?_⟩
        exact fp_below HBE.out (by omega) _ _ _ _ _ _
end

section
open Go.RowKit
set_option maxRecDepth 20000
set_option maxHeartbeats 4000000
theorem flFp : Flat 26 (6 * 1) := ⟨Try.isAgg26, Try.sizeOf26⟩
theorem flPart : Flat 110 (6 * 1) := ⟨Try.isAgg110, Try.sizeOf110⟩
theorem flFp2 : Flat 51 (6 * 2) := ⟨Try.isAgg51, Try.sizeOf51⟩
theorem fp2_fields : Try.prog.underlying 51 = some (.struct (List.toArray [⟨"A", 26, 0, false, "", "", 0⟩, ⟨"B", 26, 6, false, "", "", 48⟩])) := Try.underlying51
theorem faFp2_0 : FieldAt 51 0 0 := ⟨_, _, 5, fp2_fields, rfl, rfl, Try.sizeOf26⟩
theorem faFp2_1 : FieldAt 51 1 6 := ⟨_, _, 5, fp2_fields, rfl, rfl, Try.sizeOf26⟩
theorem eqFp : EqF 26 6 2 := EqF.array Try.eqGuardType26 Try.underlying26
theorem eqFp2 : EqF 51 12 3 := EqF.struct Try.eqGuardType51 fp2_fields Try.stoodInHeld51
  (.cons (n := 6) (m := 6) (by decide) rfl flFp eqFp (.cons (n := 6) (m := 0) (by decide) rfl flFp eqFp (.nil _)))
theorem cells0 (n : Nat) : cellsOf (List.replicate n 0) = List.replicate n (Value.int .u64 0) := by simp [cellsOf]
theorem zFp (w : World) : (zeroValue 26).run Try.prog w = .ok (lv (rows 6 [0])) w := by
  rw [Try.zeroValue26 w, show [0] = List.replicate 1 0 from rfl, rows_zero, lv, cells0]
  rfl
theorem zPart (w : World) : (zeroValue 110).run Try.prog w = .ok (lv (rows 6 [0])) w := by
  rw [Try.zeroValue110 w, show [0] = List.replicate 1 0 from rfl, rows_zero, lv, cells0]
  rfl
theorem zFp2 (w : World) : (zeroValue 51).run Try.prog w = .ok (lv (rows 6 [0, 0])) w := by
  rw [Try.zeroValue51 w, show [0, 0] = List.replicate 2 0 from rfl, rows_zero, lv, cells0]
  rfl
theorem litFp : Value.agg #[.int .u64 0, .int .u64 0, .int .u64 0, .int .u64 0, .int .u64 0, .int .u64 0] = nv 6 [0] := by
  rw [nv, show [0] = List.replicate 1 0 from rfl, rows_zero, lv, cells0]
  rfl
theorem nv6 (v : Nat) : nv 6 [v] = fpV v := by rw [nv_row, fp_cells]
theorem litOne : Value.agg #[.int .u64 1, .int .u64 0, .int .u64 0, .int .u64 0, .int .u64 0, .int .u64 0] = nv 6 [1] := by rw [nv6, fp_lit1]
theorem stFp2 : Struct 51 12 [(0, 6), (6, 6)] := by
  refine ⟨_, fp2_fields, fun w => ?_, fun w => ?_⟩
  · rw [Try.zeroValue51 w, lv, cells0]; rfl
  · simp [Sem.run_bind, Try.sizeOf26]
theorem rows_split (a b : Nat) : rows 6 [a, b] = row 6 a ++ row 6 b := by rw [rows_cons, rows_one]
theorem bdAB (a b : Nat) : Instr.fill ((List.toArray [(0, 6), (6, 6)])[·]?) (cellsOf (List.replicate 12 0)).toArray [(0, nv 6 [a]), (1, nv 6 [b])] = some (cellsOf (rows 6 [a, b])).toArray := by
  rw [nv, nv, rows_one, rows_one, fill_cons (off := 0) (n := 6) rfl (length_row 6 a) (by simp), fill_cons (off := 6) (n := 6) rfl (length_row 6 b) (by simp [length_row]), Instr.fill, rows_split]
  congr 3 <;> simp [length_row, List.take_append, List.drop_append]
theorem fpB_all1 {a : Nat} (h : a < fpB) : ∀ x ∈ [a], x < 2 ^ (64 * 6) := fun x hx => by
  rw [List.mem_singleton] at hx
  rw [hx]
  exact Nat.lt_of_lt_of_eq h fpB_eq
theorem fpB_all2 {a b : Nat} (ha : a < fpB) (hb : b < fpB) : ∀ x ∈ [a, b], x < 2 ^ (64 * 6) := fun x hx => by
  rcases List.mem_cons.1 hx with rfl | hx
  · exact Nat.lt_of_lt_of_eq ha fpB_eq
  · exact fpB_all1 hb x hx
theorem fpClean_n (a : Nat) (w : World) (ha : a < fpB) (v : Nat) (hv : v = a % pN) : Calls Try.prog 52 #[nv 6 [a]] w (Is (nv 6 [v]) w) := by rw [nv6, nv6]; exact fpClean_v a w ha v hv
theorem fpAdd_n (a b : Nat) (w : World) (ha : a < fpB) (hb : b < fpB) (v : Nat) (hv : v = (a + b) % pN) : Calls Try.prog 34 #[nv 6 [a], nv 6 [b]] w (Is (nv 6 [v]) w) := by rw [nv6, nv6, nv6]; exact fpAdd_v a b w ha hb v hv
theorem fpSub_n (a b : Nat) (w : World) (ha : a < fpB) (hb : b < fpB) (v : Nat) (hv : v = (a + (pN - b % pN)) % pN) : Calls Try.prog 46 #[nv 6 [a], nv 6 [b]] w (Is (nv 6 [v]) w) := by rw [nv6, nv6, nv6]; exact fpSub_v a b w ha hb v hv
theorem fpMul_n (a b : Nat) (w : World) (ha : a < fpB) (hb : b < fpB) (v : Nat) (hv : v = a * b % pN) : Calls Try.prog 33 #[nv 6 [a], nv 6 [b]] w (Is (nv 6 [v]) w) := by rw [nv6, nv6, nv6]; exact fpMul_v a b w ha hb v hv
theorem fpInv_n (a : Nat) (w : World) (ha : a < fpB) (v : Nat) (hv : v = a ^ (pN - 2) % pN) : Calls Try.prog 43 #[nv 6 [a]] w (Is (nv 6 [v]) w) := by rw [nv6, nv6]; exact fpInv_v a w ha v hv
theorem fpRight_n (a : Nat) (w : World) (ha : a < fpB) (r : Bool) (hr : r = decide (a < pN)) : Calls Try.prog 15 #[nv 6 [a]] w (Is (.bool r) w) := by rw [nv6]; exact fpRight_v a w ha r hr
theorem then_n {P : Program} {y : Code} {Q : Exit → Act → World → Prop} {a : Act} {w : World} (h : y.wp P Q a w) : Exit.then (y.wp P Q) Q .normal a w := h
theorem ret_celln {fn : Func} {tmps : Array Value} {w : World} {t ty : TypeId} {k g K : Nat} {l : List Nat} (hr : fn.results = #[.cell k ty]) (hk : tmps.getD k undef = (pz g)) (h : Arr t w g (rows K l)) (hf : Flat ty (K * l.length)) :
    (results fn tmps).run Try.prog w = .ok (nv K l) w := ret_cell hr hk h (by rw [rows_len]; exact hf)
def OpensN (ty : TypeId) (n : Nat) : Prop := ∀ {H : Type} {enc : TypeId × Value → H} {w : World} {base : Nat} {sp : Nat → Bool} {held : Bool} {fuel : Nat} {cs : List Value} {x : DataW H × List MemPlace},
  DataW.trod enc Try.prog w base sp held fuel ty cs = some x → cs.length = n ∧ ∀ i, i < n → ∃ y : Nat, y < 2 ^ 64 ∧ cs[i]? = some (.int .u64 (y : Int))
theorem opens_limb : OpensN 24 1 := fun h => by
  obtain ⟨k, rfl, _, hw⟩ := DataW.trod_int Try.underlying24 h
  have hb := Go.bounds_u64 hw
  refine ⟨rfl, fun i hi => ⟨k.toNat, by omega, ?_⟩⟩
  obtain rfl : i = 0 := by omega
  rw [Int.toNat_of_nonneg hb.1]
  rfl
theorem opens_array {ty : TypeId} {n : Nat} (hu : Try.prog.underlying ty = some (.array n 24)) (hc2 : Try.prog.cellsOf ty = n) : OpensN ty n := fun {H enc w base sp held fuel cs x} h => by
  have hc : Try.prog.cellsOf 24 = 1 := by kernel_rfl
  obtain ⟨xs, m, _, _, hl, hx, hi⟩ := DataW.trod_array hu h
  refine ⟨by omega, fun i hin => ?_⟩
  have h1 := hi i hin
  rw [hc, Nat.mul_one, List.getElem?_eq_getElem (by omega : i < xs.length)] at h1
  obtain ⟨_, h2⟩ := opens_limb h1
  obtain ⟨y, hy, he⟩ := h2 0 (by omega)
  refine ⟨y, hy, ?_⟩
  rw [List.getElem?_take_of_lt (by decide), List.getElem?_drop, Nat.add_zero] at he
  exact he
theorem limbs_of {cs : List Value} {n : Nat} (hl : cs.length = n) (h : ∀ i, i < n → ∃ y : Nat, y < 2 ^ 64 ∧ cs[i]? = some (.int .u64 (y : Int))) : ∃ xs : List Nat, xs.length = n ∧ Small xs ∧ cs = cellsOf xs := by
  induction cs generalizing n with
  | nil => exact ⟨[], by simpa using hl, (fun x hx => absurd hx List.not_mem_nil), rfl⟩
  | cons c cs ih =>
    cases n with
    | zero => simp at hl
    | succ n =>
      obtain ⟨xs, h1, h2, h3⟩ := ih (n := n) (by simpa using hl) (fun i hi => by
        obtain ⟨y, hy, he⟩ := h (i + 1) (by omega)
        exact ⟨y, hy, by simpa using he⟩)
      obtain ⟨y, hy, he⟩ := h 0 (by omega)
      have hc : c = .int .u64 (y : Int) := by simpa using he
      refine ⟨y :: xs, by simp [h1], ?_, by rw [hc, h3]; rfl⟩
      intro z hz
      rcases List.mem_cons.1 hz with rfl | hz
      · exact hy
      · exact h2 z hz
theorem rows_of {K : Nat} : ∀ (k : Nat) (xs : List Nat), xs.length = K * k → Small xs → ∃ l : List Nat, l.length = k ∧ (∀ x ∈ l, x < 2 ^ (64 * K)) ∧ rows K l = xs
  | 0, xs, hl, _ => by
    rw [Nat.mul_zero] at hl
    rw [List.length_eq_zero_iff.1 hl]
    exact ⟨[], rfl, (fun x hx => absurd hx List.not_mem_nil), rfl⟩
  | k + 1, xs, hl, hs => by
    have hlen : (xs.take K).length = K := by rw [List.length_take, hl, Nat.mul_add]; omega
    have hs1 : Small (xs.take K) := fun x hx => hs x (List.mem_of_mem_take hx)
    obtain ⟨l, h1, h2, h3⟩ := rows_of (K := K) k (xs.drop K) (by rw [List.length_drop, hl, Nat.mul_add]; omega) (fun x hx => hs x (List.mem_of_mem_drop hx))
    refine ⟨val (xs.take K) :: l, by simp [h1], ?_, ?_⟩
    · intro x hx
      rcases List.mem_cons.1 hx with rfl | hx
      · exact val_lt_of (K := K) hs1 (Nat.le_of_eq hlen)
      · exact h2 x hx
    · have := row_val hs1
      rw [hlen] at this
      rw [rows_cons, this, h3, List.take_append_drop]
theorem opens_fp : OpensN 26 6 := opens_array Try.underlying26 (by kernel_rfl)
def pCl (a : Nat) : Nat := a % pN
def pAdd (a b : Nat) : Nat := (a + b) % pN
def pSub (a b : Nat) : Nat := (a + (pN - b % pN)) % pN
def pNeg (a : Nat) : Nat := (pN - a % pN) % pN
def pMul (a b : Nat) : Nat := a * b % pN
def pInv (a : Nat) : Nat := a ^ (pN - 2) % pN
theorem pCl_P (a : Nat) : pCl a < pN := fpM_mod _
theorem pAdd_P (a b : Nat) : pAdd a b < pN := fpM_mod _
theorem pSub_P (a b : Nat) : pSub a b < pN := fpM_mod _
theorem pMul_P (a b : Nat) : pMul a b < pN := fpM_mod _
theorem pInv_P (a : Nat) : pInv a < pN := fpM_mod _
theorem one_P : 1 < pN := by decide +kernel
theorem pMul_B (a b : Nat) : pMul a b < fpB := Nat.lt_trans (pMul_P _ _) fpM_lt
theorem zero_B : 0 < fpB := fp_ltB (by decide)
theorem fpClean_p (a : Nat) (w : World) (ha : a < fpB) : Calls Try.prog 52 #[nv 6 [a]] w (Is (nv 6 [pCl a]) w) := fpClean_n a w ha _ (by delta pCl; exact Eq.refl _)
theorem fpAdd_p (a b : Nat) (w : World) (ha : a < fpB) (hb : b < fpB) : Calls Try.prog 34 #[nv 6 [a], nv 6 [b]] w (Is (nv 6 [pAdd a b]) w) := fpAdd_n a b w ha hb _ (by delta pAdd; exact Eq.refl _)
theorem fpSub_p (a b : Nat) (w : World) (ha : a < fpB) (hb : b < fpB) : Calls Try.prog 46 #[nv 6 [a], nv 6 [b]] w (Is (nv 6 [pSub a b]) w) := fpSub_n a b w ha hb _ (by delta pSub; exact Eq.refl _)
theorem fpMul_p (a b : Nat) (w : World) (ha : a < fpB) (hb : b < fpB) : Calls Try.prog 33 #[nv 6 [a], nv 6 [b]] w (Is (nv 6 [pMul a b]) w) := fpMul_n a b w ha hb _ (by delta pMul; exact Eq.refl _)
theorem partclean_v (a : Nat) (w : World) (ha : a < fpB) :
    Calls Try.prog 83 #[nv 6 [a]] w (Is (nv 6 [(pCl a)]) w) := by
  go_enter Try.func83, Try.ntmps83
  refine seq_lit ?_
  refine sn1 (xs := rows 6 [a]) (ex_boxn (K := 6) (l := [a]) rfl) ?_
  intro w1 N1 hb1
  have HB2 := below_then (brf w) hb1
  refine sn1 (xs := rows 6 [0]) (ex_alloc zPart) ?_
  intro w3 N3 hb3
  have A4 := N1.keep hb3
  have HB5 := below_then HB2 hb3
  refine seq_nil ?_
  refine seq_lit ?_
  refine sv1 (nv 6 [a]) (ex_loadn (K := 6) (k := 0) (j := 1) (l := [a]) flPart rfl A4 rfl _ rfl) ?_
  refine sck HB5 Try.call52 (fpClean_p a _ ha) ?_
  intro w7 hb7 HB10
  have A9 := N3.keep hb7
  refine st1 (t := 110) (xs := rows 6 [0]) (ys := rows 6 [(pCl a)]) A9 (len_rows rfl) (ex_storen (K := 6) (l := [0]) (m := [(pCl a)]) flPart rfl rfl A9 rfl) ?_
  intro w11 N11 hst11 hoth11
  have HB13 := hst11 _ _ HB10 HB2.size
  refine seq_nil ?_
  exact wp_ret (bodyPost_ret (ret_celln (K := 6) Try.results83 rfl N11 flPart) rfl ⟨rfl, HB13⟩)
theorem partplus_v (a b : Nat) (w : World) (ha : a < fpB) (hb : b < fpB) :
    Calls Try.prog 86 #[nv 6 [a], nv 6 [b]] w (Is (nv 6 [(pAdd a b)]) w) := by
  go_enter Try.func86, Try.ntmps86
  refine seq_lit ?_
  refine sn1 (xs := rows 6 [a]) (ex_boxn (K := 6) (l := [a]) rfl) ?_
  intro w1 N1 hb1
  have HB2 := below_then (brf w) hb1
  refine sn1 (xs := rows 6 [b]) (ex_boxn (K := 6) (l := [b]) rfl) ?_
  intro w3 N3 hb3
  have A4 := N1.keep hb3
  have HB5 := below_then HB2 hb3
  refine sn1 (xs := rows 6 [0]) (ex_alloc zPart) ?_
  intro w7 N7 hb7
  have A8 := A4.keep hb7
  have A9 := N3.keep hb7
  have HB10 := below_then HB5 hb7
  refine seq_nil ?_
  refine seq_lit ?_
  refine sv1 (nv 6 [a]) (ex_loadn (K := 6) (k := 0) (j := 1) (l := [a]) flPart rfl A8 rfl _ rfl) ?_
  refine sv1 (nv 6 [b]) (ex_loadn (K := 6) (k := 0) (j := 1) (l := [b]) flPart rfl A9 rfl _ rfl) ?_
  refine sck HB10 Try.call34 (fpAdd_p a b _ ha hb) ?_
  intro w13 hb13 HB17
  have A16 := N7.keep hb13
  refine st1 (t := 110) (xs := rows 6 [0]) (ys := rows 6 [(pAdd a b)]) A16 (len_rows rfl) (ex_storen (K := 6) (l := [0]) (m := [(pAdd a b)]) flPart rfl rfl A16 rfl) ?_
  intro w18 N18 hst18 hoth18
  have HB21 := hst18 _ _ HB17 HB5.size
  refine seq_nil ?_
  exact wp_ret (bodyPost_ret (ret_celln (K := 6) Try.results86 rfl N18 flPart) rfl ⟨rfl, HB21⟩)
theorem parttimes_v (a b : Nat) (w : World) (ha : a < fpB) (hb : b < fpB) :
    Calls Try.prog 85 #[nv 6 [a], nv 6 [b]] w (Is (nv 6 [(pMul a b)]) w) := by
  go_enter Try.func85, Try.ntmps85
  refine seq_lit ?_
  refine sn1 (xs := rows 6 [a]) (ex_boxn (K := 6) (l := [a]) rfl) ?_
  intro w1 N1 hb1
  have HB2 := below_then (brf w) hb1
  refine sn1 (xs := rows 6 [b]) (ex_boxn (K := 6) (l := [b]) rfl) ?_
  intro w3 N3 hb3
  have A4 := N1.keep hb3
  have HB5 := below_then HB2 hb3
  refine sn1 (xs := rows 6 [0]) (ex_alloc zPart) ?_
  intro w7 N7 hb7
  have A8 := A4.keep hb7
  have A9 := N3.keep hb7
  have HB10 := below_then HB5 hb7
  refine seq_nil ?_
  refine seq_lit ?_
  refine sv1 (nv 6 [a]) (ex_loadn (K := 6) (k := 0) (j := 1) (l := [a]) flPart rfl A8 rfl _ rfl) ?_
  refine sv1 (nv 6 [b]) (ex_loadn (K := 6) (k := 0) (j := 1) (l := [b]) flPart rfl A9 rfl _ rfl) ?_
  refine sck HB10 Try.call33 (fpMul_p a b _ ha hb) ?_
  intro w13 hb13 HB17
  have A16 := N7.keep hb13
  refine st1 (t := 110) (xs := rows 6 [0]) (ys := rows 6 [(pMul a b)]) A16 (len_rows rfl) (ex_storen (K := 6) (l := [0]) (m := [(pMul a b)]) flPart rfl rfl A16 rfl) ?_
  intro w18 N18 hst18 hoth18
  have HB21 := hst18 _ _ HB17 HB5.size
  refine seq_nil ?_
  exact wp_ret (bodyPost_ret (ret_celln (K := 6) Try.results85 rfl N18 flPart) rfl ⟨rfl, HB21⟩)
theorem both_v (f : FuncId) (hf : ∀ (args : Array Value) (w : World), (callFunc f args).run Try.prog w = .ok (.enter f args) w) (g : Nat → Nat) (hg : ∀ (x : Nat) (w : World), x < fpB → Calls Try.prog f #[nv 6 [x]] w (Is (nv 6 [g x]) w)) (a b : Nat) (w : World) (ha : a < fpB) (hb : b < fpB) :
    Calls Try.prog 82 #[nv 6 [a, b], .func (.func f) #[] #[]] w (Is (nv 6 [(g a), (g b)]) w) := by
  go_enter Try.func82, Try.ntmps82
  refine seq_lit ?_
  refine sn1 (xs := rows 6 [a, b]) (ex_boxn (K := 6) (l := [a, b]) rfl) ?_
  intro w1 N1 hb1
  have HB2 := below_then (brf w) hb1
  refine sn1 (xs := rows 6 [0, 0]) (ex_alloc zFp2) ?_
  intro w3 N3 hb3
  have A4 := N1.keep hb3
  have HB5 := below_then HB2 hb3
  refine seq_nil ?_
  refine wp_seq (wp_region_last (F := ⟨#[nv 6 [a, b], .func (.func f) #[] #[], pz w.heap.size, undef, pz w1.heap.size, .func (.func f) #[] #[], pz w.heap.size, nv 6 [a], nv 6 [(g a)], .func (.func f) #[] #[], pq w.heap.size 6, nv 6 [b], nv 6 [(g b)], nv 6 [(g a), (g b)]], []⟩) (S := Bel w3) [(5, .func (.func f) #[] #[]), (6, pz w.heap.size), (7, nv 6 [a]), (8, nv 6 [(g a)]), (9, .func (.func f) #[] #[]), (10, pq w.heap.size 6), (11, nv 6 [b]), (12, nv 6 [(g b)]), (13, nv 6 [(g a), (g b)])] 9 _ (by kernel_rfl) (by kernel_rfl) (by kernel_rfl) (by kernel_rfl) rfl rfl (by kernel_rfl) rfl (by simp only [putAll, List.setIfInBounds_toArray, List.set_cons_zero, List.set_cons_succ]) (Bel.start _) ?_ ?_)
  · refine PlanInit.cons (ps_val (v := .func (.func f) #[] #[]) rfl rfl rfl (fun W' h => ex_move _)) ?_
    refine PlanInit.cons (ps_val (v := pz w.heap.size) rfl rfl rfl (fun W' h => ex_field faFp2_0 rfl)) ?_
    refine PlanInit.cons (ps_val (v := nv 6 [a]) rfl rfl rfl (fun W' h => ex_loadn (K := 6) (k := 0) (j := 1) (l := [a, b]) flFp rfl (A4.keep h.out) rfl _ rfl)) ?_
    refine PlanInit.cons (ps_call (v := nv 6 [(g a)]) rfl rfl rfl (fun W' => ex_call (vs := [nv 6 [a]]) rfl hf rfl) (fun W' h => hg a _ ha)) ?_
    refine PlanInit.cons (ps_val (v := .func (.func f) #[] #[]) rfl rfl rfl (fun W' h => ex_move _)) ?_
    refine PlanInit.cons (ps_val (v := pq w.heap.size 6) rfl rfl rfl (fun W' h => ex_field faFp2_1 rfl)) ?_
    refine PlanInit.cons (ps_val (v := nv 6 [b]) rfl rfl rfl (fun W' h => ex_loadn (K := 6) (k := 1) (j := 1) (l := [a, b]) flFp rfl (A4.keep h.out) rfl _ rfl)) ?_
    refine PlanInit.cons (ps_call (v := nv 6 [(g b)]) rfl rfl rfl (fun W' => ex_call (vs := [nv 6 [b]]) rfl hf rfl) (fun W' h => hg b _ hb)) ?_
    refine PlanInit.cons (ps_val (v := nv 6 [(g a), (g b)]) rfl rfl rfl (fun W' h => ex_build stFp2 (vs := [(0, nv 6 [(g a)]), (1, nv 6 [(g b)])]) rfl (bdAB (g a) (g b)))) ?_
    exact PlanInit.one
  refine last_store (t := 51) (xs := rows 6 [0, 0]) (ys := rows 6 [(g a), (g b)]) rfl rfl (fun W' h => N3.keep h.out) (len_rows rfl) (fun W' h => ex_storen (K := 6) (l := [0, 0]) (m := [(g a), (g b)]) flFp2 rfl rfl (N3.keep h.out) rfl) ?_
  intro w7 w8 hb7 N8 hst8 hoth8
  refine then_n ?_
  have A9 := A4.keep hb7.out
  have A10 := N3.keep hb7.out
  have HB11 := below_then HB5 hb7.out
  have A12 := hoth8 _ _ _ (nelt N1.lt) A9
  have HB13 := hst8 _ _ HB11 HB2.size
  exact wp_ret (bodyPost_ret (ret_celln (K := 6) Try.results82 rfl N8 flFp2) rfl ⟨rfl, HB13⟩)
theorem pairwise_v (f : FuncId) (hf : ∀ (args : Array Value) (w : World), (callFunc f args).run Try.prog w = .ok (.enter f args) w) (g : Nat → Nat → Nat) (hg : ∀ (x y : Nat) (w : World), x < fpB → y < fpB → Calls Try.prog f #[nv 6 [x], nv 6 [y]] w (Is (nv 6 [g x y]) w)) (a b c d : Nat) (w : World) (ha : a < fpB) (hb : b < fpB) (hc : c < fpB) (hd : d < fpB) :
    Calls Try.prog 84 #[nv 6 [a, b], nv 6 [c, d], .func (.func f) #[] #[]] w (Is (nv 6 [(g a c), (g b d)]) w) := by
  go_enter Try.func84, Try.ntmps84
  refine seq_lit ?_
  refine sn1 (xs := rows 6 [a, b]) (ex_boxn (K := 6) (l := [a, b]) rfl) ?_
  intro w1 N1 hb1
  have HB2 := below_then (brf w) hb1
  refine sn1 (xs := rows 6 [c, d]) (ex_boxn (K := 6) (l := [c, d]) rfl) ?_
  intro w3 N3 hb3
  have A4 := N1.keep hb3
  have HB5 := below_then HB2 hb3
  refine sn1 (xs := rows 6 [0, 0]) (ex_alloc zFp2) ?_
  intro w7 N7 hb7
  have A8 := A4.keep hb7
  have A9 := N3.keep hb7
  have HB10 := below_then HB5 hb7
  refine seq_nil ?_
  refine wp_seq (wp_region_last (F := ⟨#[nv 6 [a, b], nv 6 [c, d], .func (.func f) #[] #[], pz w.heap.size, pz w1.heap.size, undef, pz w3.heap.size, .func (.func f) #[] #[], pz w.heap.size, nv 6 [a], pz w1.heap.size, nv 6 [c], nv 6 [(g a c)], .func (.func f) #[] #[], pq w.heap.size 6, nv 6 [b], pq w1.heap.size 6, nv 6 [d], nv 6 [(g b d)], nv 6 [(g a c), (g b d)]], []⟩) (S := Bel w7) [(7, .func (.func f) #[] #[]), (8, pz w.heap.size), (9, nv 6 [a]), (10, pz w1.heap.size), (11, nv 6 [c]), (12, nv 6 [(g a c)]), (13, .func (.func f) #[] #[]), (14, pq w.heap.size 6), (15, nv 6 [b]), (16, pq w1.heap.size 6), (17, nv 6 [d]), (18, nv 6 [(g b d)]), (19, nv 6 [(g a c), (g b d)])] 13 _ (by kernel_rfl) (by kernel_rfl) (by kernel_rfl) (by kernel_rfl) rfl rfl (by kernel_rfl) rfl (by simp only [putAll, List.setIfInBounds_toArray, List.set_cons_zero, List.set_cons_succ]) (Bel.start _) ?_ ?_)
  · refine PlanInit.cons (ps_val (v := .func (.func f) #[] #[]) rfl rfl rfl (fun W' h => ex_move _)) ?_
    refine PlanInit.cons (ps_val (v := pz w.heap.size) rfl rfl rfl (fun W' h => ex_field faFp2_0 rfl)) ?_
    refine PlanInit.cons (ps_val (v := nv 6 [a]) rfl rfl rfl (fun W' h => ex_loadn (K := 6) (k := 0) (j := 1) (l := [a, b]) flFp rfl (A8.keep h.out) rfl _ rfl)) ?_
    refine PlanInit.cons (ps_val (v := pz w1.heap.size) rfl rfl rfl (fun W' h => ex_field faFp2_0 rfl)) ?_
    refine PlanInit.cons (ps_val (v := nv 6 [c]) rfl rfl rfl (fun W' h => ex_loadn (K := 6) (k := 0) (j := 1) (l := [c, d]) flFp rfl (A9.keep h.out) rfl _ rfl)) ?_
    refine PlanInit.cons (ps_call (v := nv 6 [(g a c)]) rfl rfl rfl (fun W' => ex_call (vs := [nv 6 [a], nv 6 [c]]) rfl hf rfl) (fun W' h => hg a c _ ha hc)) ?_
    refine PlanInit.cons (ps_val (v := .func (.func f) #[] #[]) rfl rfl rfl (fun W' h => ex_move _)) ?_
    refine PlanInit.cons (ps_val (v := pq w.heap.size 6) rfl rfl rfl (fun W' h => ex_field faFp2_1 rfl)) ?_
    refine PlanInit.cons (ps_val (v := nv 6 [b]) rfl rfl rfl (fun W' h => ex_loadn (K := 6) (k := 1) (j := 1) (l := [a, b]) flFp rfl (A8.keep h.out) rfl _ rfl)) ?_
    refine PlanInit.cons (ps_val (v := pq w1.heap.size 6) rfl rfl rfl (fun W' h => ex_field faFp2_1 rfl)) ?_
    refine PlanInit.cons (ps_val (v := nv 6 [d]) rfl rfl rfl (fun W' h => ex_loadn (K := 6) (k := 1) (j := 1) (l := [c, d]) flFp rfl (A9.keep h.out) rfl _ rfl)) ?_
    refine PlanInit.cons (ps_call (v := nv 6 [(g b d)]) rfl rfl rfl (fun W' => ex_call (vs := [nv 6 [b], nv 6 [d]]) rfl hf rfl) (fun W' h => hg b d _ hb hd)) ?_
    refine PlanInit.cons (ps_val (v := nv 6 [(g a c), (g b d)]) rfl rfl rfl (fun W' h => ex_build stFp2 (vs := [(0, nv 6 [(g a c)]), (1, nv 6 [(g b d)])]) rfl (bdAB (g a c) (g b d)))) ?_
    exact PlanInit.one
  refine last_store (t := 51) (xs := rows 6 [0, 0]) (ys := rows 6 [(g a c), (g b d)]) rfl rfl (fun W' h => N7.keep h.out) (len_rows rfl) (fun W' h => ex_storen (K := 6) (l := [0, 0]) (m := [(g a c), (g b d)]) flFp2 rfl rfl (N7.keep h.out) rfl) ?_
  intro w13 w14 hb13 N14 hst14 hoth14
  refine then_n ?_
  have A15 := A8.keep hb13.out
  have A16 := A9.keep hb13.out
  have A17 := N7.keep hb13.out
  have HB18 := below_then HB10 hb13.out
  have A19 := hoth14 _ _ _ (nelt A4.lt) A15
  have A20 := hoth14 _ _ _ (nelt N3.lt) A16
  have HB21 := hst14 _ _ HB18 HB5.size
  exact wp_ret (bodyPost_ret (ret_celln (K := 6) Try.results84 rfl N14 flFp2) rfl ⟨rfl, HB21⟩)
theorem duoClean_v (a b : Nat) (w : World) (ha : a < fpB) (hb : b < fpB) :
    Calls Try.prog 65 #[nv 6 [a, b]] w (Is (nv 6 [(pCl a), (pCl b)]) w) := by
  go_enter Try.func65, Try.ntmps65
  refine seq_lit ?_
  refine sn1 (xs := rows 6 [a, b]) (ex_boxn (K := 6) (l := [a, b]) rfl) ?_
  intro w1 N1 hb1
  have HB2 := below_then (brf w) hb1
  refine sn1 (xs := rows 6 [0, 0]) (ex_alloc zFp2) ?_
  intro w3 N3 hb3
  have A4 := N1.keep hb3
  have HB5 := below_then HB2 hb3
  refine seq_nil ?_
  refine seq_lit ?_
  refine sv1 (nv 6 [a, b]) (ex_loadn (K := 6) (k := 0) (j := 2) (l := [a, b]) flFp2 rfl A4 rfl _ rfl) ?_
  refine sck HB5 Try.call82 (both_v _ Try.call83 pCl (fun x w hx => partclean_v x w hx) a b _ ha hb) ?_
  intro w7 hb7 HB10
  have A9 := N3.keep hb7
  refine st1 (t := 51) (xs := rows 6 [0, 0]) (ys := rows 6 [(pCl a), (pCl b)]) A9 (len_rows rfl) (ex_storen (K := 6) (l := [0, 0]) (m := [(pCl a), (pCl b)]) flFp2 rfl rfl A9 rfl) ?_
  intro w11 N11 hst11 hoth11
  have HB13 := hst11 _ _ HB10 HB2.size
  refine seq_nil ?_
  exact wp_ret (bodyPost_ret (ret_celln (K := 6) Try.results65 rfl N11 flFp2) rfl ⟨rfl, HB13⟩)
theorem duoClean_e (a b : Nat) (w : World) (ha : a < fpB) (hb : b < fpB) (v0 v1 : Nat) (hv0 : v0 = (pCl a)) (hv1 : v1 = (pCl b)) :
    Calls Try.prog 65 #[nv 6 [a, b]] w (Is (nv 6 [v0, v1]) w) := by
  rw [hv0, hv1]
  exact duoClean_v a b w ha hb
theorem duoAdd_v (a b c d : Nat) (w : World) (ha : a < fpB) (hb : b < fpB) (hc : c < fpB) (hd : d < fpB) :
    Calls Try.prog 67 #[nv 6 [a, b], nv 6 [c, d]] w (Is (nv 6 [(pAdd a c), (pAdd b d)]) w) := by
  go_enter Try.func67, Try.ntmps67
  refine seq_lit ?_
  refine sn1 (xs := rows 6 [a, b]) (ex_boxn (K := 6) (l := [a, b]) rfl) ?_
  intro w1 N1 hb1
  have HB2 := below_then (brf w) hb1
  refine sn1 (xs := rows 6 [c, d]) (ex_boxn (K := 6) (l := [c, d]) rfl) ?_
  intro w3 N3 hb3
  have A4 := N1.keep hb3
  have HB5 := below_then HB2 hb3
  refine sn1 (xs := rows 6 [0, 0]) (ex_alloc zFp2) ?_
  intro w7 N7 hb7
  have A8 := A4.keep hb7
  have A9 := N3.keep hb7
  have HB10 := below_then HB5 hb7
  refine seq_nil ?_
  refine seq_lit ?_
  refine sv1 (nv 6 [a, b]) (ex_loadn (K := 6) (k := 0) (j := 2) (l := [a, b]) flFp2 rfl A8 rfl _ rfl) ?_
  refine sv1 (nv 6 [c, d]) (ex_loadn (K := 6) (k := 0) (j := 2) (l := [c, d]) flFp2 rfl A9 rfl _ rfl) ?_
  refine sck HB10 Try.call84 (pairwise_v _ Try.call86 pAdd (fun x y w hx hy => partplus_v x y w hx hy) a b c d _ ha hb hc hd) ?_
  intro w13 hb13 HB17
  have A16 := N7.keep hb13
  refine st1 (t := 51) (xs := rows 6 [0, 0]) (ys := rows 6 [(pAdd a c), (pAdd b d)]) A16 (len_rows rfl) (ex_storen (K := 6) (l := [0, 0]) (m := [(pAdd a c), (pAdd b d)]) flFp2 rfl rfl A16 rfl) ?_
  intro w18 N18 hst18 hoth18
  have HB21 := hst18 _ _ HB17 HB5.size
  refine seq_nil ?_
  exact wp_ret (bodyPost_ret (ret_celln (K := 6) Try.results67 rfl N18 flFp2) rfl ⟨rfl, HB21⟩)
theorem duoAdd_e (a b c d : Nat) (w : World) (ha : a < fpB) (hb : b < fpB) (hc : c < fpB) (hd : d < fpB) (v0 v1 : Nat) (hv0 : v0 = (pAdd a c)) (hv1 : v1 = (pAdd b d)) :
    Calls Try.prog 67 #[nv 6 [a, b], nv 6 [c, d]] w (Is (nv 6 [v0, v1]) w) := by
  rw [hv0, hv1]
  exact duoAdd_v a b c d w ha hb hc hd
theorem duoMul_v (a b c d : Nat) (w : World) (ha : a < fpB) (hb : b < fpB) (hc : c < fpB) (hd : d < fpB) :
    Calls Try.prog 66 #[nv 6 [a, b], nv 6 [c, d]] w (Is (nv 6 [(pSub (pMul a c) (pMul b d)), (pAdd (pMul a d) (pMul b c))]) w) := by
  go_enter Try.func66, Try.ntmps66
  refine seq_lit ?_
  refine sn1 (xs := rows 6 [a, b]) (ex_boxn (K := 6) (l := [a, b]) rfl) ?_
  intro w1 N1 hb1
  have HB2 := below_then (brf w) hb1
  refine sn1 (xs := rows 6 [c, d]) (ex_boxn (K := 6) (l := [c, d]) rfl) ?_
  intro w3 N3 hb3
  have A4 := N1.keep hb3
  have HB5 := below_then HB2 hb3
  refine sn1 (xs := rows 6 [0, 0]) (ex_alloc zFp2) ?_
  intro w7 N7 hb7
  have A8 := A4.keep hb7
  have A9 := N3.keep hb7
  have HB10 := below_then HB5 hb7
  refine seq_nil ?_
  refine seq_lit ?_
  refine sv1 (nv 6 [a, b]) (ex_loadn (K := 6) (k := 0) (j := 2) (l := [a, b]) flFp2 rfl A8 rfl _ rfl) ?_
  refine sv1 (nv 6 [c, d]) (ex_loadn (K := 6) (k := 0) (j := 2) (l := [c, d]) flFp2 rfl A9 rfl _ rfl) ?_
  refine sck HB10 Try.call84 (pairwise_v _ Try.call85 pMul (fun x y w hx hy => parttimes_v x y w hx hy) a b c d _ ha hb hc hd) ?_
  intro w13 hb13 HB17
  have A14 := A8.keep hb13
  have A15 := A9.keep hb13
  have A16 := N7.keep hb13
  refine sn1 (xs := rows 6 [0, 0]) (ex_alloc zFp2) ?_
  intro w18 N18 hb18
  have A19 := A14.keep hb18
  have A20 := A15.keep hb18
  have A21 := A16.keep hb18
  have HB22 := below_then HB17 hb18
  refine st1 (t := 51) (xs := rows 6 [0, 0]) (ys := rows 6 [(pMul a c), (pMul b d)]) N18 (len_rows rfl) (ex_storen (K := 6) (l := [0, 0]) (m := [(pMul a c), (pMul b d)]) flFp2 rfl rfl N18 rfl) ?_
  intro w26 N26 hst26 hoth26
  have A27 := hoth26 _ _ _ (nelt A14.lt) A19
  have A28 := hoth26 _ _ _ (nelt A15.lt) A20
  have A29 := hoth26 _ _ _ (nelt A16.lt) A21
  have HB30 := hst26 _ _ HB22 HB17.size
  refine seq_nil ?_
  refine seq_lit ?_
  refine sv1 (nv 6 [a, b]) (ex_loadn (K := 6) (k := 0) (j := 2) (l := [a, b]) flFp2 rfl A27 rfl _ rfl) ?_
  refine sv1 (pq w1.heap.size 6) (ex_field faFp2_1 rfl) ?_
  refine sv1 (nv 6 [d]) (ex_loadn (K := 6) (k := 1) (j := 1) (l := [c, d]) flFp rfl A28 rfl _ rfl) ?_
  refine sv1 (pz w1.heap.size) (ex_field faFp2_0 rfl) ?_
  refine sv1 (nv 6 [c]) (ex_loadn (K := 6) (k := 0) (j := 1) (l := [c, d]) flFp rfl A28 rfl _ rfl) ?_
  refine sv1 (nv 6 [d, c]) (ex_build stFp2 (vs := [(0, nv 6 [d]), (1, nv 6 [c])]) rfl (bdAB d c)) ?_
  refine sck HB30 Try.call84 (pairwise_v _ Try.call85 pMul (fun x y w hx hy => parttimes_v x y w hx hy) a b d c _ ha hb hd hc) ?_
  intro w31 hb31 HB36
  have A34 := A29.keep hb31
  have A35 := N26.keep hb31
  refine sn1 (xs := rows 6 [0, 0]) (ex_alloc zFp2) ?_
  intro w37 N37 hb37
  have A40 := A34.keep hb37
  have A41 := A35.keep hb37
  have HB42 := below_then HB36 hb37
  refine st1 (t := 51) (xs := rows 6 [0, 0]) (ys := rows 6 [(pMul a d), (pMul b c)]) N37 (len_rows rfl) (ex_storen (K := 6) (l := [0, 0]) (m := [(pMul a d), (pMul b c)]) flFp2 rfl rfl N37 rfl) ?_
  intro w47 N47 hst47 hoth47
  have A50 := hoth47 _ _ _ (nelt A34.lt) A40
  have A51 := hoth47 _ _ _ (nelt A35.lt) A41
  have HB52 := hst47 _ _ HB42 HB36.size
  refine seq_nil ?_
  refine wp_seq (wp_region_last (F := ⟨#[nv 6 [a, b], nv 6 [c, d], pz w.heap.size, pz w1.heap.size, pz w3.heap.size, pz w13.heap.size, pz w31.heap.size, nv 6 [a, b], nv 6 [c, d], nv 6 [(pMul a c), (pMul b d)], nv 6 [a, b], pq w1.heap.size 6, nv 6 [d], pz w1.heap.size, nv 6 [c], nv 6 [d, c], nv 6 [(pMul a d), (pMul b c)], pz w13.heap.size, nv 6 [(pMul a c)], pq w13.heap.size 6, nv 6 [(pMul b d)], nv 6 [(pSub (pMul a c) (pMul b d))], pz w31.heap.size, nv 6 [(pMul a d)], pq w31.heap.size 6, nv 6 [(pMul b c)], nv 6 [(pAdd (pMul a d) (pMul b c))], nv 6 [(pSub (pMul a c) (pMul b d)), (pAdd (pMul a d) (pMul b c))]], []⟩) (S := Bel w47) [(17, pz w13.heap.size), (18, nv 6 [(pMul a c)]), (19, pq w13.heap.size 6), (20, nv 6 [(pMul b d)]), (21, nv 6 [(pSub (pMul a c) (pMul b d))]), (22, pz w31.heap.size), (23, nv 6 [(pMul a d)]), (24, pq w31.heap.size 6), (25, nv 6 [(pMul b c)]), (26, nv 6 [(pAdd (pMul a d) (pMul b c))]), (27, nv 6 [(pSub (pMul a c) (pMul b d)), (pAdd (pMul a d) (pMul b c))])] 11 _ (by kernel_rfl) (by kernel_rfl) (by kernel_rfl) (by kernel_rfl) rfl rfl (by kernel_rfl) rfl (by simp only [putAll, List.setIfInBounds_toArray, List.set_cons_zero, List.set_cons_succ]) (Bel.start _) ?_ ?_)
  · refine PlanInit.cons (ps_val (v := pz w13.heap.size) rfl rfl rfl (fun W' h => ex_field faFp2_0 rfl)) ?_
    refine PlanInit.cons (ps_val (v := nv 6 [(pMul a c)]) rfl rfl rfl (fun W' h => ex_loadn (K := 6) (k := 0) (j := 1) (l := [(pMul a c), (pMul b d)]) flFp rfl (A51.keep h.out) rfl _ rfl)) ?_
    refine PlanInit.cons (ps_val (v := pq w13.heap.size 6) rfl rfl rfl (fun W' h => ex_field faFp2_1 rfl)) ?_
    refine PlanInit.cons (ps_val (v := nv 6 [(pMul b d)]) rfl rfl rfl (fun W' h => ex_loadn (K := 6) (k := 1) (j := 1) (l := [(pMul a c), (pMul b d)]) flFp rfl (A51.keep h.out) rfl _ rfl)) ?_
    refine PlanInit.cons (ps_call (v := nv 6 [(pSub (pMul a c) (pMul b d))]) rfl rfl rfl (fun W' => ex_call (vs := [nv 6 [(pMul a c)], nv 6 [(pMul b d)]]) rfl Try.call46 rfl) (fun W' h => fpSub_p (pMul a c) (pMul b d) _ (pMul_B _ _) (pMul_B _ _))) ?_
    refine PlanInit.cons (ps_val (v := pz w31.heap.size) rfl rfl rfl (fun W' h => ex_field faFp2_0 rfl)) ?_
    refine PlanInit.cons (ps_val (v := nv 6 [(pMul a d)]) rfl rfl rfl (fun W' h => ex_loadn (K := 6) (k := 0) (j := 1) (l := [(pMul a d), (pMul b c)]) flFp rfl (N47.keep h.out) rfl _ rfl)) ?_
    refine PlanInit.cons (ps_val (v := pq w31.heap.size 6) rfl rfl rfl (fun W' h => ex_field faFp2_1 rfl)) ?_
    refine PlanInit.cons (ps_val (v := nv 6 [(pMul b c)]) rfl rfl rfl (fun W' h => ex_loadn (K := 6) (k := 1) (j := 1) (l := [(pMul a d), (pMul b c)]) flFp rfl (N47.keep h.out) rfl _ rfl)) ?_
    refine PlanInit.cons (ps_call (v := nv 6 [(pAdd (pMul a d) (pMul b c))]) rfl rfl rfl (fun W' => ex_call (vs := [nv 6 [(pMul a d)], nv 6 [(pMul b c)]]) rfl Try.call34 rfl) (fun W' h => fpAdd_p (pMul a d) (pMul b c) _ (pMul_B _ _) (pMul_B _ _))) ?_
    refine PlanInit.cons (ps_val (v := nv 6 [(pSub (pMul a c) (pMul b d)), (pAdd (pMul a d) (pMul b c))]) rfl rfl rfl (fun W' h => ex_build stFp2 (vs := [(0, nv 6 [(pSub (pMul a c) (pMul b d))]), (1, nv 6 [(pAdd (pMul a d) (pMul b c))])]) rfl (bdAB (pSub (pMul a c) (pMul b d)) (pAdd (pMul a d) (pMul b c))))) ?_
    exact PlanInit.one
  refine last_store (t := 51) (xs := rows 6 [0, 0]) (ys := rows 6 [(pSub (pMul a c) (pMul b d)), (pAdd (pMul a d) (pMul b c))]) rfl rfl (fun W' h => A50.keep h.out) (len_rows rfl) (fun W' h => ex_storen (K := 6) (l := [0, 0]) (m := [(pSub (pMul a c) (pMul b d)), (pAdd (pMul a d) (pMul b c))]) flFp2 rfl rfl (A50.keep h.out) rfl) ?_
  intro w53 w54 hb53 N54 hst54 hoth54
  refine then_n ?_
  have HB60 := below_then HB52 hb53.out
  have HB65 := hst54 _ _ HB60 HB5.size
  exact wp_ret (bodyPost_ret (ret_celln (K := 6) Try.results66 rfl N54 flFp2) rfl ⟨rfl, HB65⟩)
theorem duoMul_e (a b c d : Nat) (w : World) (ha : a < fpB) (hb : b < fpB) (hc : c < fpB) (hd : d < fpB) (v0 v1 : Nat) (hv0 : v0 = (pSub (pMul a c) (pMul b d))) (hv1 : v1 = (pAdd (pMul a d) (pMul b c))) :
    Calls Try.prog 66 #[nv 6 [a, b], nv 6 [c, d]] w (Is (nv 6 [v0, v1]) w) := by
  rw [hv0, hv1]
  exact duoMul_v a b c d w ha hb hc hd
def Rep (v : Nat) (z : Int) : Prop := ∃ k : Int, (v : Int) = z + (pN : Int) * k
theorem rep_self (a : Nat) : Rep a (a : Int) := ⟨0, by omega⟩
theorem rep_mod {a : Nat} {z : Int} (h : Rep a z) : Rep (a % pN) z := by
  obtain ⟨k, hk⟩ := h
  refine ⟨k - ((a / pN : Nat) : Int), ?_⟩
  have e : ((a % pN : Nat) : Int) = (a : Int) - (pN : Int) * ((a / pN : Nat) : Int) := by
    have := Nat.div_add_mod a pN
    generalize a / pN = q at *
    generalize a % pN = r at *
    generalize pN = M at *
    subst this
    push_cast
    grind
  rw [e, hk]
  generalize (pN : Int) = M
  grind
theorem rep_cl {a : Nat} {z : Int} (h : Rep a z) : Rep (pCl a) z := rep_mod h
theorem rep_add {a b : Nat} {x y : Int} (h : Rep a x) (h' : Rep b y) : Rep (pAdd a b) (x + y) := by
  refine rep_mod ?_
  obtain ⟨k, hk⟩ := h
  obtain ⟨l, hl⟩ := h'
  refine ⟨k + l, ?_⟩
  push_cast
  rw [hk, hl]
  generalize (pN : Int) = M
  grind
theorem rep_mul {a b : Nat} {x y : Int} (h : Rep a x) (h' : Rep b y) : Rep (pMul a b) (x * y) := by
  refine rep_mod ?_
  obtain ⟨k, hk⟩ := h
  obtain ⟨l, hl⟩ := h'
  refine ⟨x * l + k * y + (pN : Int) * k * l, ?_⟩
  push_cast
  rw [hk, hl]
  generalize (pN : Int) = M
  grind
theorem rep_less {b : Nat} {y : Int} (h : Rep b y) : Rep (pN - b % pN) (-y) := by
  obtain ⟨k, hk⟩ := rep_mod h
  have hlt : b % pN < pN := fpM_mod b
  refine ⟨1 - k, ?_⟩
  rw [Int.ofNat_sub (Nat.le_of_lt hlt), hk]
  generalize (pN : Int) = M
  grind
theorem rep_plus {a b : Nat} {x y : Int} (h : Rep a x) (h' : Rep b y) : Rep (a + b) (x + y) := by
  obtain ⟨k, hk⟩ := h
  obtain ⟨l, hl⟩ := h'
  refine ⟨k + l, ?_⟩
  push_cast
  rw [hk, hl]
  generalize (pN : Int) = M
  grind
theorem rep_sub {a b : Nat} {x y : Int} (h : Rep a x) (h' : Rep b y) : Rep (pSub a b) (x - y) := by
  have := rep_mod (rep_plus h (rep_less h'))
  rwa [← Int.sub_eq_add_neg] at this
theorem rep_eq {v u : Nat} (h : v = u) {z : Int} (hr : Rep u z) : Rep v z := by rw [h]; exact hr
theorem rep_uniq {u v : Nat} {x y : Int} (hu : u < pN) (hv : v < pN) (h : Rep u x) (h' : Rep v y) (e : x = y) : u = v := by
  obtain ⟨k, hk⟩ := h
  obtain ⟨l, hl⟩ := h'
  subst e
  have hM : (0 : Int) < (pN : Int) := by decide +kernel
  have h1 : (u : Int) < (pN : Int) := by exact_mod_cast hu
  have h2 : (v : Int) < (pN : Int) := by exact_mod_cast hv
  have h3 : (u : Int) - v = (pN : Int) * (k - l) := by
    rw [hk, hl]
    generalize (pN : Int) = M
    grind
  have hkl : k - l = 0 := by
    rcases Int.lt_trichotomy (k - l) 0 with h | h | h
    · have : (pN : Int) * (k - l) ≤ (pN : Int) * (-1) := Int.mul_le_mul_of_nonneg_left (by omega) (Int.le_of_lt hM)
      rw [← h3] at this
      omega
    · exact h
    · have : (pN : Int) * 1 ≤ (pN : Int) * (k - l) := Int.mul_le_mul_of_nonneg_left (by omega) (Int.le_of_lt hM)
      rw [← h3] at this
      omega
  rw [hkl, Int.mul_zero] at h3
  omega
theorem pInv_mul {n : Nat} (h : pCl n ≠ 0) : pMul n (pInv n) = 1 := by
  have h1 := p_inv (pCl n) (by omega) (pCl_P n)
  unfold pCl at h1
  rw [← Nat.pow_mod, Nat.mod_mul_mod] at h1
  delta pMul pInv
  exact h1
theorem pCl_of {a : Nat} (h : a < pN) : pCl a = a := Nat.mod_eq_of_lt h
theorem neg_pow (k : Nat) : (pN - 1) ^ (2 * k + 1) % pN = pN - 1 := by
  have h1 : (pN - 1) ^ 2 % pN = 1 := by decide +kernel
  have h2 : (pN - 1) % pN = pN - 1 := by decide +kernel
  rw [Nat.pow_succ, Nat.pow_mul, Nat.mul_mod, Nat.pow_mod ((pN - 1) ^ 2), h1, Nat.one_pow, Nat.mod_eq_of_lt one_P, Nat.one_mul, Nat.mod_mod, h2]
theorem half_odd : pN - 1 = 2 * (2 * ((pN - 3) / 4) + 1) := by decide +kernel
theorem no_neg_square (x : Nat) (h : pMul x x = pN - 1) : False := by
  have hx : x % pN ≠ 0 := fun h0 => by
    unfold pMul at h
    rw [Nat.mul_mod, h0, Nat.zero_mul, Nat.zero_mod] at h
    revert h
    decide +kernel
  have hf := p_fermat (x % pN) (by omega) (fpM_mod x)
  rw [half_odd, Nat.pow_mul, Nat.pow_mod, Nat.pow_two, ← Nat.mul_mod, show x * x % pN = pN - 1 from h, neg_pow] at hf
  revert hf
  decide +kernel
theorem pMul_zero {a b : Nat} (h : pMul a b = 0) : pCl a = 0 ∨ pCl b = 0 := by
  by_cases hb : pCl b = 0
  · exact .inr hb
  · left
    have h1 := pInv_mul hb
    have r1 : Rep 1 ((b : Int) * (pInv b : Nat)) := rep_eq h1.symm (rep_mul (rep_self b) (rep_self (pInv b)))
    have r0 : Rep 0 ((a : Int) * b) := rep_eq h.symm (rep_mul (rep_self a) (rep_self b))
    have r2 : Rep (pMul a 1) ((a : Int) * ((b : Int) * (pInv b : Nat))) := rep_mul (rep_self a) r1
    have r3 : Rep (pMul 0 (pInv b)) ((a : Int) * b * (pInv b : Nat)) := rep_mul r0 (rep_self (pInv b))
    have e := rep_uniq (pMul_P _ _) (pMul_P _ _) r2 r3 (by grind)
    unfold pMul at e
    rw [Nat.mul_one, Nat.zero_mul, Nat.zero_mod] at e
    exact e
theorem norm_zero {a b : Nat} (h : pAdd (pMul a a) (pMul b b) = 0) : pCl a = 0 ∧ pCl b = 0 := by
  have r0 : Rep 0 ((a : Int) * a + (b : Int) * b) := rep_eq h.symm (rep_add (rep_mul (rep_self a) (rep_self a)) (rep_mul (rep_self b) (rep_self b)))
  by_cases hb : pCl b = 0
  · refine ⟨?_, hb⟩
    have rb : Rep 0 (b : Int) := rep_eq hb.symm (rep_cl (rep_self b))
    have e : pMul a a = 0 := by
      have r1 : Rep (pSub 0 (pMul 0 0)) (((a : Int) * a + (b : Int) * b) - (b : Int) * b) := rep_sub r0 (rep_mul rb rb)
      have := rep_uniq (pMul_P a a) (pSub_P _ _) (rep_mul (rep_self a) (rep_self a)) r1 (by grind)
      rw [this]
      decide +kernel
    rcases pMul_zero e with h | h <;> exact h
  · exfalso
    have h1 := pInv_mul hb
    have r1 : Rep 1 ((b : Int) * (pInv b : Nat)) := rep_eq h1.symm (rep_mul (rep_self b) (rep_self (pInv b)))
    refine no_neg_square (pMul a (pInv b)) ?_
    have rx := rep_mul (rep_self a) (rep_self (pInv b))
    have rl := rep_mul rx rx
    have rr : Rep (pSub (pMul 0 (pMul (pInv b) (pInv b))) (pMul 1 1)) (((a : Int) * a + (b : Int) * b) * ((pInv b : Nat) * (pInv b : Nat)) - ((b : Int) * (pInv b : Nat)) * ((b : Int) * (pInv b : Nat))) :=
      rep_sub (rep_mul r0 (rep_mul (rep_self (pInv b)) (rep_self (pInv b)))) (rep_mul r1 r1)
    have e := rep_uniq (pMul_P _ _) (pSub_P _ _) rl rr (by grind)
    rw [e]
    unfold pMul
    rw [Nat.zero_mul]
    decide +kernel
theorem ex_one {ρ : Operand → Value} {d : Option Tmp} {ty0 : TypeId} {pos : String} {after : Array Edge} {guard : Option (Nat × Bool)} {w : World} (HC : ρ (.const (.int .u64 1)) = .int .u64 1) :
    (execOp ρ ⟨d, .build 26 #[(0, .const (.int .u64 1))], ty0, pos, after, guard⟩).run Try.prog w = .ok (.value (nv 6 [1])) w := by
  rw [← litOne]
  simp [execOp, Instr.build, Instr.fill, Sem.run_bind, Value.cells, go_sem, HC]
theorem ex_zero {ρ : Operand → Value} {d : Option Tmp} {ty0 : TypeId} {pos : String} {after : Array Edge} {guard : Option (Nat × Bool)} {w : World} :
    (execOp ρ ⟨d, .build 26 #[], ty0, pos, after, guard⟩).run Try.prog w = .ok (.value (nv 6 [0])) w := by
  rw [← litFp]
  simp [execOp, Instr.build, Instr.fill, Value.cells, go_sem]
end
end
end Go.Proofs.Ytkkmekdhejhapaa

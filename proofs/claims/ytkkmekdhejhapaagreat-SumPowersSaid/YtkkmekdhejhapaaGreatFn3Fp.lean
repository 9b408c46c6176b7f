/- What is proved here: contracts of fp.Add; contracts of fp.Sub and Neg. -/
import Derived.Test.YtkkmekdhejhapaaGreatFn1Fp
namespace Go.Proofs.YtkkmekdhejhapaaGreat
section
open Go.RowKit
theorem fpsum_lt {x y : Nat} (hx : x < pN) (hy : y < pN) : x + y < fpB := by have := fpM_two; omega
theorem fp_ltE {x : Nat} (h : x < fpB) : x < 2 ^ (64 * 6) := Nat.lt_of_lt_of_eq h fpB_eq
set_option maxRecDepth 20000 in
set_option maxHeartbeats 4000000 in
theorem fpAdd_v (a b : Nat) (w : World) (ha : a < fpB) (hb : b < fpB) (v : Nat) (hv : v = (a + b) % pN) :
    Calls Tryz.prog 114 #[fpV a, fpV b] w (Is (fpV v) w) := by
  obtain ⟨x, hx⟩ : ∃ x, x = a % pN := ⟨_, rfl⟩
  obtain ⟨y, hy⟩ : ∃ y, y = b % pN := ⟨_, rfl⟩
  have HXM := Lib.hid (show x < pN by rw [hx]; exact fpM_mod a)
  have HYM := Lib.hid (show y < pN by rw [hy]; exact fpM_mod b)
  have HXB := Lib.hid (Nat.lt_trans HXM.out fpM_lt)
  have HYB := Lib.hid (Nat.lt_trans HYM.out fpM_lt)
  obtain ⟨s, hs⟩ : ∃ s, s = x + y := ⟨_, rfl⟩
  have HSB := Lib.hid (show s < fpB by rw [hs]; exact fpsum_lt HXM.out HYM.out)
  have HS := Lib.hid hs
  have HV := Lib.hid (show v = s % pN by rw [hv, hs, hx, hy, ← Nat.add_mod])
  clear hs hv
  have HX := Lib.hid hx
  have HY := Lib.hid hy
  have HA := Lib.hid ha
  have HB := Lib.hid hb
  obtain ⟨w3, hw3, a1, a2, a3, hb0, hsz⟩ := fp_lay_vvz 24 w a b
  have HW := Lib.hid hw3
  have A1 := Lib.hid a1
  have A2 := Lib.hid a2
  have A3 := Lib.hid a3
  have HB0 := Lib.hid hb0
  clear hx hy ha hb hw3 a1 a2 a3 hb0 hsz
  go_enter Tryz.func114, Tryz.ntmps114
  go_wp2_with fail
  rw [HW.out]
  clear HW
  have c0 : w3.drew.cell? ⟨w.heap.size, 0, none⟩ = _ := A1.out.fpc0
  have c1 : w3.drew.cell? ⟨w.heap.size, 1, none⟩ = _ := A1.out.fpc1
  have c2 : w3.drew.cell? ⟨w.heap.size, 2, none⟩ = _ := A1.out.fpc2
  have c3 : w3.drew.cell? ⟨w.heap.size, 3, none⟩ = _ := A1.out.fpc3
  have c4 : w3.drew.cell? ⟨w.heap.size, 4, none⟩ = _ := A1.out.fpc4
  have c5 : w3.drew.cell? ⟨w.heap.size, 5, none⟩ = _ := A1.out.fpc5
  have d0 : w3.drew.cell? ⟨w.heap.size + 1, 0, none⟩ = _ := A2.out.fpc0
  have d1 : w3.drew.cell? ⟨w.heap.size + 1, 1, none⟩ = _ := A2.out.fpc1
  have d2 : w3.drew.cell? ⟨w.heap.size + 1, 2, none⟩ = _ := A2.out.fpc2
  have d3 : w3.drew.cell? ⟨w.heap.size + 1, 3, none⟩ = _ := A2.out.fpc3
  have d4 : w3.drew.cell? ⟨w.heap.size + 1, 4, none⟩ = _ := A2.out.fpc4
  have d5 : w3.drew.cell? ⟨w.heap.size + 1, 5, none⟩ = _ := A2.out.fpc5
  go_region_with (go_at_call 129; first
    | ((with_reducible refine (fpClean_v a _ HA.out x HX.out).mono ?_); rintro e Y1 ⟨rfl, hb1⟩; have hb1' : Below w3.heap.size w3 Y1 := (Below.refl w3.heap.size w3).drew.trans hb1; have k0 := (A2.out.keep hb1').fpc0; have k1 := (A2.out.keep hb1').fpc1; have k2 := (A2.out.keep hb1').fpc2; have k3 := (A2.out.keep hb1').fpc3; have k4 := (A2.out.keep hb1').fpc4; have k5 := (A2.out.keep hb1').fpc5; have HB1 := Lib.hid hb1'; clear hb1 hb1')
    | ((with_reducible refine (fpClean_v b _ HB.out y HY.out).mono ?_); rintro e Y2 ⟨rfl, hb2⟩; have hb2' : Below w3.heap.size w3 Y2 := below_then HB1.out hb2; have p1 := A1.out.keep hb2'; have p2 := A2.out.keep hb2'; have l0 := p1.fpc0; have l1 := p1.fpc1; have l2 := p1.fpc2; have l3 := p1.fpc3; have l4 := p1.fpc4; have l5 := p1.fpc5; have m0 := p2.fpc0; have m1 := p2.fpc1; have m2 := p2.fpc2; have m3 := p2.fpc3; have m4 := p2.fpc4; have m5 := p2.fpc5; have q0 := p1.frozen 0; have q1 := p1.frozen 1; have q2 := p1.frozen 2; have q3 := p1.frozen 3; have q4 := p1.frozen 4; have q5 := p1.frozen 5; have s0 := p2.frozen 0; have s1 := p2.frozen 1; have s2 := p2.frozen 2; have s3 := p2.frozen 3; have s4 := p2.frozen 4; have s5 := p2.frozen 5; have P1 := Lib.hid p1; have P2 := Lib.hid p2; have HB2 := Lib.hid hb2'; clear hb2 hb2' p1 p2))
  all_goals
    obtain ⟨W, hW, o1, o2, oo, ob, osz⟩ := fp_two P1.out P2.out (by omega : w.heap.size ≠ w.heap.size + 1) x y
    have hp3 : w.heap.size + 1 + 1 < w3.heap.size := A3.out.lt
    have O1 := Lib.hid o1
    have O2 := Lib.hid o2
    have O3 := Lib.hid (oo _ _ _ (by omega : w.heap.size + 1 + 1 ≠ w.heap.size) (by omega : w.heap.size + 1 + 1 ≠ w.heap.size + 1) (A3.out.keep HB2.out))
    have OB := Lib.hid (ob _ _ (below_then HB0.out HB2.out) (Nat.le_refl _) (Nat.le_succ _))
    have HW := Lib.hid hW
    clear hW o1 o2 oo ob osz P1 P2 HB1 HB2 hp3
    go_wp2_with fail
    rw [HW.out]
    clear HW c0 c1 c2 c3 c4 c5 d0 d1 d2 d3 d4 d5 k0 k1 k2 k3 k4 k5 l0 l1 l2 l3 l4 l5 m0 m1 m2 m3 m4 m5 q0 q1 q2 q3 q4 q5 s0 s1 s2 s3 s4 s5
    go_region_with (go_at_call 168; refine (natAdd_of _ _ x y _ (by decide) (fp_ltE HXB.out) (fp_ltE HYB.out) O1.out.vrow.drew O2.out.vrow.drew).mono ?_; rintro e w4 ⟨g, cc, rfl, ho, hg, hb4⟩; have hb4' : Below W.heap.size W w4 := (Below.refl W.heap.size W).drew.trans hb4; rw [← HS.out] at ho; have V4 := Lib.hid ho.vrow; have Z4 := Lib.hid (O3.out.keep hb4'); have HB4 := Lib.hid (below_then OB.out hb4'); clear ho hg hb4 hb4')
    all_goals
      go_wp2_with fail
      refine (fpnumber_v _ 6 6 s _ rfl V4.out).mono ?_
      rintro e w5 ⟨rfl, hb5⟩
      have Z5 := Lib.hid (Z4.out.keep hb5)
      have HB5 := Lib.hid (below_then HB4.out hb5)
      clear hb5
      go_wp2_with fail
      refine (fpClean_v s _ HSB.out v HV.out).mono ?_
      rintro e w6 ⟨rfl, hb6⟩
      have ZE := Z5.out.keep hb6
      have m0 := ZE.fpc0
      have m1 := ZE.fpc1
      have m2 := ZE.fpc2
      have m3 := ZE.fpc3
      have m4 := ZE.fpc4
      have m5 := ZE.fpc5
      have q0 := ZE.frozen 0
      have q1 := ZE.frozen 1
      have q2 := ZE.frozen 2
      have q3 := ZE.frozen 3
      have q4 := ZE.frozen 4
      have q5 := ZE.frozen 5
      have HBE := Lib.hid (below_then HB5.out hb6)
      clear hb6 ZE
      go_wp2
      refine bodyPost_ret (v := fpV v) (by simp [results, Tryz.results114, go_sem, m0, m1, m2, m3, m4, m5]) rfl ⟨rfl, ?_⟩
      exact fp_below HBE.out (by omega) _ _ _ _ _ _
end

section
open Go.RowKit
theorem fpSub_ge {a b v x y : Nat} (hx : x = a % pN) (hy : y = b % pN) (hv : v = (a + (pN - b % pN)) % pN) (h : y ≤ x) : v = x - y := by
  have h1 := fpM_mod a
  have h2 := fpM_mod b
  have h0 := fpM_pos
  rw [← hy] at h2
  rw [← hx] at h1
  rw [hv, ← hy, Nat.add_mod, ← hx]
  generalize pN = m at *
  rcases Nat.eq_zero_or_pos y with e | e
  · subst e
    rw [Nat.sub_zero, Nat.mod_self, Nat.add_zero, Nat.mod_eq_of_lt h1]
    rfl
  · rw [Nat.mod_eq_of_lt (show m - y < m by omega), show x + (m - y) = (x - y) + m by omega, Nat.add_mod_right, Nat.mod_eq_of_lt (by omega)]
theorem fpSub_lt {a b v x y : Nat} (hx : x = a % pN) (hy : y = b % pN) (hv : v = (a + (pN - b % pN)) % pN) (h : x < y) : v = x + pN - y := by
  have h2 := fpM_mod b
  rw [← hy] at h2
  rw [hv, ← hy, Nat.add_mod, ← hx]
  generalize pN = m at *
  rw [Nat.mod_eq_of_lt (show m - y < m by omega), show x + (m - y) = x + m - y by omega, Nat.mod_eq_of_lt (by omega)]
theorem fpSub_lim {x y : Nat} (h : x < y) (hy : y < fpB) : x + 2 ^ (64 * 6) - y < 2 ^ (64 * 6) := by
  have := fp_ltE hy
  revert this
  generalize 2 ^ (64 * 6) = P
  omega
set_option maxRecDepth 20000 in
set_option maxHeartbeats 4000000 in
theorem fpSub_v (a b : Nat) (w : World) (ha : a < fpB) (hb : b < fpB) (v : Nat) (hv : v = (a + (pN - b % pN)) % pN) :
    Calls Tryz.prog 133 #[fpV a, fpV b] w (Is (fpV v) w) := by
  obtain ⟨x, hx⟩ : ∃ x, x = a % pN := ⟨_, rfl⟩
  obtain ⟨y, hy⟩ : ∃ y, y = b % pN := ⟨_, rfl⟩
  have HXM := Lib.hid (show x < pN by rw [hx]; exact fpM_mod a)
  have HYM := Lib.hid (show y < pN by rw [hy]; exact fpM_mod b)
  have HXB := Lib.hid (Nat.lt_trans HXM.out fpM_lt)
  have HYB := Lib.hid (Nat.lt_trans HYM.out fpM_lt)
  have HG := Lib.hid (fun h => fpSub_ge hx hy hv h)
  have HL := Lib.hid (fun h => fpSub_lt hx hy hv h)
  clear hv
  have HX := Lib.hid hx
  have HY := Lib.hid hy
  have HA := Lib.hid ha
  have HB := Lib.hid hb
  obtain ⟨w3, hw3, a1, a2, a3, hb0, hsz⟩ := fp_lay_vvz 24 w a b
  have HW := Lib.hid hw3
  have A1 := Lib.hid a1
  have A2 := Lib.hid a2
  have A3 := Lib.hid a3
  have HB0 := Lib.hid hb0
  clear hx hy ha hb hw3 a1 a2 a3 hb0 hsz
  go_enter Tryz.func133, Tryz.ntmps133
  go_wp2_with fail
  rw [HW.out]
  clear HW
  have c0 : w3.drew.cell? ⟨w.heap.size, 0, none⟩ = _ := A1.out.fpc0
  have c1 : w3.drew.cell? ⟨w.heap.size, 1, none⟩ = _ := A1.out.fpc1
  have c2 : w3.drew.cell? ⟨w.heap.size, 2, none⟩ = _ := A1.out.fpc2
  have c3 : w3.drew.cell? ⟨w.heap.size, 3, none⟩ = _ := A1.out.fpc3
  have c4 : w3.drew.cell? ⟨w.heap.size, 4, none⟩ = _ := A1.out.fpc4
  have c5 : w3.drew.cell? ⟨w.heap.size, 5, none⟩ = _ := A1.out.fpc5
  have d0 : w3.drew.cell? ⟨w.heap.size + 1, 0, none⟩ = _ := A2.out.fpc0
  have d1 : w3.drew.cell? ⟨w.heap.size + 1, 1, none⟩ = _ := A2.out.fpc1
  have d2 : w3.drew.cell? ⟨w.heap.size + 1, 2, none⟩ = _ := A2.out.fpc2
  have d3 : w3.drew.cell? ⟨w.heap.size + 1, 3, none⟩ = _ := A2.out.fpc3
  have d4 : w3.drew.cell? ⟨w.heap.size + 1, 4, none⟩ = _ := A2.out.fpc4
  have d5 : w3.drew.cell? ⟨w.heap.size + 1, 5, none⟩ = _ := A2.out.fpc5
  go_region_with (go_at_call 129; first
    | ((with_reducible refine (fpClean_v a _ HA.out x HX.out).mono ?_); rintro e Y1 ⟨rfl, hb1⟩; have hb1' : Below w3.heap.size w3 Y1 := (Below.refl w3.heap.size w3).drew.trans hb1; have k0 := (A2.out.keep hb1').fpc0; have k1 := (A2.out.keep hb1').fpc1; have k2 := (A2.out.keep hb1').fpc2; have k3 := (A2.out.keep hb1').fpc3; have k4 := (A2.out.keep hb1').fpc4; have k5 := (A2.out.keep hb1').fpc5; have HB1 := Lib.hid hb1'; clear hb1 hb1')
    | ((with_reducible refine (fpClean_v b _ HB.out y HY.out).mono ?_); rintro e Y2 ⟨rfl, hb2⟩; have hb2' : Below w3.heap.size w3 Y2 := below_then HB1.out hb2; have p1 := A1.out.keep hb2'; have p2 := A2.out.keep hb2'; have l0 := p1.fpc0; have l1 := p1.fpc1; have l2 := p1.fpc2; have l3 := p1.fpc3; have l4 := p1.fpc4; have l5 := p1.fpc5; have m0 := p2.fpc0; have m1 := p2.fpc1; have m2 := p2.fpc2; have m3 := p2.fpc3; have m4 := p2.fpc4; have m5 := p2.fpc5; have q0 := p1.frozen 0; have q1 := p1.frozen 1; have q2 := p1.frozen 2; have q3 := p1.frozen 3; have q4 := p1.frozen 4; have q5 := p1.frozen 5; have s0 := p2.frozen 0; have s1 := p2.frozen 1; have s2 := p2.frozen 2; have s3 := p2.frozen 3; have s4 := p2.frozen 4; have s5 := p2.frozen 5; have P1 := Lib.hid p1; have P2 := Lib.hid p2; have HB2 := Lib.hid hb2'; clear hb2 hb2' p1 p2))
  all_goals
    obtain ⟨W, hW, o1, o2, oo, ob, osz⟩ := fp_two P1.out P2.out (by omega : w.heap.size ≠ w.heap.size + 1) x y
    have hp3 : w.heap.size + 1 + 1 < w3.heap.size := A3.out.lt
    have O1 := Lib.hid o1
    have O2 := Lib.hid o2
    have O3 := Lib.hid (oo _ _ _ (by omega : w.heap.size + 1 + 1 ≠ w.heap.size) (by omega : w.heap.size + 1 + 1 ≠ w.heap.size + 1) (A3.out.keep HB2.out))
    have OB := Lib.hid (ob _ _ (below_then HB0.out HB2.out) (Nat.le_refl _) (Nat.le_succ _))
    have HW := Lib.hid hW
    clear hW o1 o2 oo ob osz P1 P2 HB1 HB2 hp3
    go_wp2_with fail
    rw [HW.out]
    clear HW c0 c1 c2 c3 c4 c5 d0 d1 d2 d3 d4 d5 k0 k1 k2 k3 k4 k5 l0 l1 l2 l3 l4 l5 m0 m1 m2 m3 m4 m5 q0 q1 q2 q3 q4 q5 s0 s1 s2 s3 s4 s5
    by_cases hc : y ≤ x
    · have HV := Lib.hid (HG.out hc)
      have HC := Lib.hid hc
      clear HG HL hc
      go_region_with (go_at_call 173; refine (natSub_ge _ _ x y _ (by decide) (fp_ltE HXB.out) (fp_ltE HYB.out) O1.out.vrow.drew O2.out.vrow.drew HC.out).mono ?_; rintro e w4 ⟨g, rfl, ho, hg, hb4⟩; have hb4' : Below W.heap.size W w4 := (Below.refl W.heap.size W).drew.trans hb4; rw [← HV.out] at ho; have V4 := Lib.hid ho.vrow; have Z4 := Lib.hid (O3.out.keep hb4'); have HB4 := Lib.hid (below_then OB.out hb4'); clear ho hg hb4 hb4')
      all_goals
        go_wp2_with fail
        refine (fpnumber_v _ 6 6 v _ rfl V4.out).mono ?_
        rintro e w5 ⟨rfl, hb5⟩
        have ZE := Z4.out.keep hb5
        have m0 := ZE.fpc0
        have m1 := ZE.fpc1
        have m2 := ZE.fpc2
        have m3 := ZE.fpc3
        have m4 := ZE.fpc4
        have m5 := ZE.fpc5
        have q0 := ZE.frozen 0
        have q1 := ZE.frozen 1
        have q2 := ZE.frozen 2
        have q3 := ZE.frozen 3
        have q4 := ZE.frozen 4
        have q5 := ZE.frozen 5
        have HBE := Lib.hid (below_then HB4.out hb5)
        clear hb5 ZE
        go_wp2
        refine bodyPost_ret (v := fpV v) (by simp [results, Tryz.results133, go_sem, m0, m1, m2, m3, m4, m5]) rfl ⟨rfl, ?_⟩
        exact fp_below HBE.out (by omega) _ _ _ _ _ _
    · have hc' : x < y := by omega
      have HV := Lib.hid (HL.out hc')
      have HC := Lib.hid hc'
      have HQ := Lib.hid (row_sub_add (K := 6) HV.out (Nat.le_of_lt HYM.out) (fp_ltE HYB.out))
      have HQL := Lib.hid (fpSub_lim HC.out HYB.out)
      obtain ⟨d, hd⟩ : ∃ d, d = x + 2 ^ (64 * 6) - y := ⟨_, rfl⟩
      rw [← hd] at HQ HQL
      have HD := Lib.hid hd
      clear HG HL hc hc' hd
      go_region_with (go_at_call 173; refine (natSub_lt _ _ x y _ (by decide) (fp_ltE HXB.out) (fp_ltE HYB.out) O1.out.vrow.drew O2.out.vrow.drew HC.out).mono ?_; rintro e w4 ⟨g, rfl, ho, hg, hb4⟩; have hb4' : Below W.heap.size W w4 := (Below.refl W.heap.size W).drew.trans hb4; rw [← HD.out] at ho; have V4 := Lib.hid ho.vrow; have Z4 := Lib.hid (O3.out.keep hb4'); have HB4 := Lib.hid (below_then OB.out hb4'); clear ho hg hb4 hb4')
      all_goals
        go_wp2_with fail
        refine (fpmodulus_v _).mono ?_
        rintro e w5 ⟨rfl, hb5⟩
        obtain ⟨w6, hw6, a6, hb6, hs6⟩ := fp_lay_v 24 w5 pN
        have HW6 := Lib.hid hw6
        have V5 := Lib.hid ((V4.out.below (Nat.le_refl _) hb5).below (Nat.le_refl _) hb6)
        have V6 := Lib.hid a6.vrow
        have Z6 := Lib.hid ((Z4.out.keep hb5).keep hb6)
        have HB6 := Lib.hid (below_then HB4.out (below_then hb5 hb6))
        clear hw6 a6 hb5 hb6 hs6 V4 Z4 HB4
        go_wp2_with fail
        rw [HW6.out]
        refine (natAdd_of _ _ d pN _ (by decide) HQL.out (fp_ltE fpM_lt) V5.out V6.out).mono ?_
        rintro e w7 ⟨g7, cc, rfl, ho7, hg7, hb7⟩
        rw [HQ.out] at ho7
        have V7 := Lib.hid ho7.vrow
        have Z7 := Lib.hid (Z6.out.keep hb7)
        have HB7 := Lib.hid (below_then HB6.out hb7)
        clear ho7 hg7 hb7 HW6
        go_wp2_with fail
        refine (fpnumber_v _ 6 6 v _ rfl V7.out).mono ?_
        rintro e w8 ⟨rfl, hb8⟩
        have ZE := Z7.out.keep hb8
        have m0 := ZE.fpc0
        have m1 := ZE.fpc1
        have m2 := ZE.fpc2
        have m3 := ZE.fpc3
        have m4 := ZE.fpc4
        have m5 := ZE.fpc5
        have q0 := ZE.frozen 0
        have q1 := ZE.frozen 1
        have q2 := ZE.frozen 2
        have q3 := ZE.frozen 3
        have q4 := ZE.frozen 4
        have q5 := ZE.frozen 5
        have HBE := Lib.hid (below_then HB7.out hb8)
        clear hb8 ZE
        go_wp2
        refine bodyPost_ret (v := fpV v) (by simp [results, Tryz.results133, go_sem, m0, m1, m2, m3, m4, m5]) rfl ⟨rfl, ?_⟩
        exact fp_below HBE.out (by omega) _ _ _ _ _ _
end
end Go.Proofs.YtkkmekdhejhapaaGreat

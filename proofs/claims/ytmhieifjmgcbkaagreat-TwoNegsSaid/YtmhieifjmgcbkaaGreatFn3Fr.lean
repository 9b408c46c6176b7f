/- What is proved here: contracts of fr.Add; contracts of fr.Sub and Neg. -/
import Derived.Test.YtmhieifjmgcbkaaGreatFn1Fr
namespace Go.Proofs.YtmhieifjmgcbkaaGreat
section
open Go.RowKit

theorem fr_ltE {x : Nat} (h : x < frB) : x < 2 ^ (64 * 4) := Nat.lt_of_lt_of_eq h frB_eq
end

section
open Go.RowKit

/-- A difference modulo rN. -/
theorem frSub_ge {a b v x y : Nat} (hx : x = a % rN) (hy : y = b % rN) (hv : v = (a + (rN - b % rN)) % rN) (h : y ≤ x) : v = x - y := by
  have h1 := frM_mod a
  have h2 := frM_mod b
  have h0 := frM_pos
  rw [← hy] at h2
  rw [← hx] at h1
  rw [hv, ← hy, Nat.add_mod, ← hx]
  generalize rN = m at *
  rcases Nat.eq_zero_or_pos y with e | e
  · subst e
    rw [Nat.sub_zero, Nat.mod_self, Nat.add_zero, Nat.mod_eq_of_lt h1]
    rfl
  · rw [Nat.mod_eq_of_lt (show m - y < m by omega), show x + (m - y) = (x - y) + m by omega, Nat.add_mod_right, Nat.mod_eq_of_lt (by omega)]

theorem frSub_lt {a b v x y : Nat} (hx : x = a % rN) (hy : y = b % rN) (hv : v = (a + (rN - b % rN)) % rN) (h : x < y) : v = x + rN - y := by
  have h2 := frM_mod b
  rw [← hy] at h2
  rw [hv, ← hy, Nat.add_mod, ← hx]
  generalize rN = m at *
  rw [Nat.mod_eq_of_lt (show m - y < m by omega), show x + (m - y) = x + m - y by omega, Nat.mod_eq_of_lt (by omega)]

theorem frSub_lim {x y : Nat} (h : x < y) (hy : y < frB) : x + 2 ^ (64 * 4) - y < 2 ^ (64 * 4) := by
  have := fr_ltE hy
  revert this
  generalize 2 ^ (64 * 4) = P
  omega

set_option maxRecDepth 20000 in
set_option maxHeartbeats 4000000 in
theorem frSub_v (a b : Nat) (w : World) (ha : a < frB) (hb : b < frB) (v : Nat) (hv : v = (a + (rN - b % rN)) % rN) :
    Calls Tryz.prog 47 #[frV a, frV b] w (Is (frV v) w) := by
  obtain ⟨x, hx⟩ : ∃ x, x = a % rN := ⟨_, rfl⟩
  obtain ⟨y, hy⟩ : ∃ y, y = b % rN := ⟨_, rfl⟩
  have HXM := Lib.hid (show x < rN by rw [hx]; exact frM_mod a)
  have HYM := Lib.hid (show y < rN by rw [hy]; exact frM_mod b)
  have HXB := Lib.hid (Nat.lt_trans HXM.out frM_lt)
  have HYB := Lib.hid (Nat.lt_trans HYM.out frM_lt)
  have HG := Lib.hid (fun h => frSub_ge hx hy hv h)
  have HL := Lib.hid (fun h => frSub_lt hx hy hv h)
  clear hv
  have HX := Lib.hid hx
  have HY := Lib.hid hy
  have HA := Lib.hid ha
  have HB := Lib.hid hb
  obtain ⟨w3, hw3, a1, a2, a3, hb0, hsz⟩ := fr_lay_vvz 41 w a b
  have HW := Lib.hid hw3
  have A1 := Lib.hid a1
  have A2 := Lib.hid a2
  have A3 := Lib.hid a3
  have HB0 := Lib.hid hb0
  clear hx hy ha hb hw3 a1 a2 a3 hb0 hsz
  go_enter Tryz.func47, Tryz.ntmps47
  go_wp2_with fail
  rw [HW.out]
  clear HW
  have c0 : w3.drew.cell? ⟨w.heap.size, 0, none⟩ = _ := A1.out.frc0
  have c1 : w3.drew.cell? ⟨w.heap.size, 1, none⟩ = _ := A1.out.frc1
  have c2 : w3.drew.cell? ⟨w.heap.size, 2, none⟩ = _ := A1.out.frc2
  have c3 : w3.drew.cell? ⟨w.heap.size, 3, none⟩ = _ := A1.out.frc3
  have d0 : w3.drew.cell? ⟨w.heap.size + 1, 0, none⟩ = _ := A2.out.frc0
  have d1 : w3.drew.cell? ⟨w.heap.size + 1, 1, none⟩ = _ := A2.out.frc1
  have d2 : w3.drew.cell? ⟨w.heap.size + 1, 2, none⟩ = _ := A2.out.frc2
  have d3 : w3.drew.cell? ⟨w.heap.size + 1, 3, none⟩ = _ := A2.out.frc3
  go_region_with (go_at_call 19; first
    | ((with_reducible refine (frClean_v a _ HA.out x HX.out).mono ?_); rintro e Y1 ⟨rfl, hb1⟩; have hb1' : Below w3.heap.size w3 Y1 := (Below.refl w3.heap.size w3).drew.trans hb1; have k0 := (A2.out.keep hb1').frc0; have k1 := (A2.out.keep hb1').frc1; have k2 := (A2.out.keep hb1').frc2; have k3 := (A2.out.keep hb1').frc3; have HB1 := Lib.hid hb1'; clear hb1 hb1')
    | ((with_reducible refine (frClean_v b _ HB.out y HY.out).mono ?_); rintro e Y2 ⟨rfl, hb2⟩; have hb2' : Below w3.heap.size w3 Y2 := below_then HB1.out hb2; have p1 := A1.out.keep hb2'; have p2 := A2.out.keep hb2'; have l0 := p1.frc0; have l1 := p1.frc1; have l2 := p1.frc2; have l3 := p1.frc3; have m0 := p2.frc0; have m1 := p2.frc1; have m2 := p2.frc2; have m3 := p2.frc3; have q0 := p1.frozen 0; have q1 := p1.frozen 1; have q2 := p1.frozen 2; have q3 := p1.frozen 3; have s0 := p2.frozen 0; have s1 := p2.frozen 1; have s2 := p2.frozen 2; have s3 := p2.frozen 3; have P1 := Lib.hid p1; have P2 := Lib.hid p2; have HB2 := Lib.hid hb2'; clear hb2 hb2' p1 p2))
  all_goals
    obtain ⟨W, hW, o1, o2, oo, ob, osz⟩ := fr_two P1.out P2.out (by omega : w.heap.size ≠ w.heap.size + 1) x y
    have hp3 : w.heap.size + 1 + 1 < w3.heap.size := A3.out.lt
    have O1 := Lib.hid o1
    have O2 := Lib.hid o2
    have O3 := Lib.hid (oo _ _ _ (by omega : w.heap.size + 1 + 1 ≠ w.heap.size) (by omega : w.heap.size + 1 + 1 ≠ w.heap.size + 1) (A3.out.keep HB2.out))
    have OB := Lib.hid (ob _ _ (below_then HB0.out HB2.out) (Nat.le_refl _) (Nat.le_succ _))
    have HW := Lib.hid hW
    clear hW o1 o2 oo ob osz P1 P2 HB1 HB2 hp3
    go_wp2_with fail
    rw [HW.out]
    clear HW c0 c1 c2 c3 d0 d1 d2 d3 k0 k1 k2 k3 l0 l1 l2 l3 m0 m1 m2 m3 q0 q1 q2 q3 s0 s1 s2 s3
    by_cases hc : y ≤ x
    · have HV := Lib.hid (HG.out hc)
      have HC := Lib.hid hc
      clear HG HL hc
      go_region_with (go_at_call 69; refine (natSub_ge _ _ x y _ (by decide) (fr_ltE HXB.out) (fr_ltE HYB.out) O1.out.vrow.drew O2.out.vrow.drew HC.out).mono ?_; rintro e w4 ⟨g, rfl, ho, hg, hb4⟩; have hb4' : Below W.heap.size W w4 := (Below.refl W.heap.size W).drew.trans hb4; rw [← HV.out] at ho; have V4 := Lib.hid ho.vrow; have Z4 := Lib.hid (O3.out.keep hb4'); have HB4 := Lib.hid (below_then OB.out hb4'); clear ho hg hb4 hb4')
      all_goals
        go_wp2_with fail
        refine (frnumber_v _ 4 4 v _ rfl V4.out).mono ?_
        rintro e w5 ⟨rfl, hb5⟩
        have ZE := Z4.out.keep hb5
        have m0 := ZE.frc0
        have m1 := ZE.frc1
        have m2 := ZE.frc2
        have m3 := ZE.frc3
        have q0 := ZE.frozen 0
        have q1 := ZE.frozen 1
        have q2 := ZE.frozen 2
        have q3 := ZE.frozen 3
        have HBE := Lib.hid (below_then HB4.out hb5)
        clear hb5 ZE
        go_wp2
        refine bodyPost_ret (v := frV v) (by simp [results, Tryz.results47, go_sem, m0, m1, m2, m3]) rfl ⟨rfl, ?_⟩
        exact fr_below HBE.out (by omega) _ _ _ _
    · have hc' : x < y := by omega
      have HV := Lib.hid (HL.out hc')
      have HC := Lib.hid hc'
      have HQ := Lib.hid (row_sub_add (K := 4) HV.out (Nat.le_of_lt HYM.out) (fr_ltE HYB.out))
      have HQL := Lib.hid (frSub_lim HC.out HYB.out)
      obtain ⟨d, hd⟩ : ∃ d, d = x + 2 ^ (64 * 4) - y := ⟨_, rfl⟩
      rw [← hd] at HQ HQL
      have HD := Lib.hid hd
      clear HG HL hc hc' hd
      go_region_with (go_at_call 69; refine (natSub_lt _ _ x y _ (by decide) (fr_ltE HXB.out) (fr_ltE HYB.out) O1.out.vrow.drew O2.out.vrow.drew HC.out).mono ?_; rintro e w4 ⟨g, rfl, ho, hg, hb4⟩; have hb4' : Below W.heap.size W w4 := (Below.refl W.heap.size W).drew.trans hb4; rw [← HD.out] at ho; have V4 := Lib.hid ho.vrow; have Z4 := Lib.hid (O3.out.keep hb4'); have HB4 := Lib.hid (below_then OB.out hb4'); clear ho hg hb4 hb4')
      all_goals
        go_wp2_with fail
        refine (frorder_v _).mono ?_
        rintro e w5 ⟨rfl, hb5⟩
        obtain ⟨w6, hw6, a6, hb6, hs6⟩ := fr_lay_v 41 w5 rN
        have HW6 := Lib.hid hw6
        have V5 := Lib.hid ((V4.out.below (Nat.le_refl _) hb5).below (Nat.le_refl _) hb6)
        have V6 := Lib.hid a6.vrow
        have Z6 := Lib.hid ((Z4.out.keep hb5).keep hb6)
        have HB6 := Lib.hid (below_then HB4.out (below_then hb5 hb6))
        clear hw6 a6 hb5 hb6 hs6 V4 Z4 HB4
        go_wp2_with fail
        rw [HW6.out]
        refine (natAdd_of _ _ d rN _ (by decide) HQL.out (fr_ltE frM_lt) V5.out V6.out).mono ?_
        rintro e w7 ⟨g7, cc, rfl, ho7, hg7, hb7⟩
        rw [HQ.out] at ho7
        have V7 := Lib.hid ho7.vrow
        have Z7 := Lib.hid (Z6.out.keep hb7)
        have HB7 := Lib.hid (below_then HB6.out hb7)
        clear ho7 hg7 hb7 HW6
        go_wp2_with fail
        refine (frnumber_v _ 4 4 v _ rfl V7.out).mono ?_
        rintro e w8 ⟨rfl, hb8⟩
        have ZE := Z7.out.keep hb8
        have m0 := ZE.frc0
        have m1 := ZE.frc1
        have m2 := ZE.frc2
        have m3 := ZE.frc3
        have q0 := ZE.frozen 0
        have q1 := ZE.frozen 1
        have q2 := ZE.frozen 2
        have q3 := ZE.frozen 3
        have HBE := Lib.hid (below_then HB7.out hb8)
        clear hb8 ZE
        go_wp2
        refine bodyPost_ret (v := frV v) (by simp [results, Tryz.results47, go_sem, m0, m1, m2, m3]) rfl ⟨rfl, ?_⟩
        exact fr_below HBE.out (by omega) _ _ _ _

set_option maxRecDepth 20000 in
set_option maxHeartbeats 4000000 in
theorem frNeg_v (a : Nat) (w : World) (ha : a < frB) (v : Nat) (hv : v = (rN - a % rN) % rN) :
    Calls Tryz.prog 22 #[frV a] w (Is (frV v) w) := by
  have HS := fun W => Lib.hid (frSub_v 0 a W (fr_ltB (by decide)) ha v (by rw [hv, Nat.zero_add]))
  rw [fr_lit0] at HS
  obtain ⟨w1, hw1, a1, z1, hb1, hs1⟩ := fr_lay_vz 41 w a
  have HW := Lib.hid hw1
  have HB1 := Lib.hid hb1
  have Z1 := Lib.hid z1
  have A1 := Lib.hid a1
  clear hw1 hb1 a1 z1 hs1 ha hv
  go_enter Tryz.func22, Tryz.ntmps22
  go_wp2_with fail
  rw [HW.out]
  refine (HS _).out.mono ?_
  rintro e w5 ⟨rfl, hb5⟩
  have ZE := Z1.out.keep hb5
  have m0 := ZE.frc0
  have m1 := ZE.frc1
  have m2 := ZE.frc2
  have m3 := ZE.frc3
  have q0 := ZE.frozen 0
  have q1 := ZE.frozen 1
  have q2 := ZE.frozen 2
  have q3 := ZE.frozen 3
  have HBE := Lib.hid (below_then HB1.out hb5)
  clear hb5 ZE
  go_wp2
  refine bodyPost_ret (v := frV v) (by simp [results, Tryz.results22, go_sem, m0, m1, m2, m3]) rfl ⟨rfl, ?_⟩
  exact fr_below HBE.out (by omega) _ _ _ _
end
end Go.Proofs.YtmhieifjmgcbkaaGreat

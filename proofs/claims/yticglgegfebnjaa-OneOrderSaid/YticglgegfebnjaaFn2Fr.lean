/- What is proved here: contracts of fr.Add. -/
import Derived.Test.YticglgegfebnjaaFn1Fr
namespace Go.Proofs.Yticglgegfebnjaa
open Go.RowKit

theorem frsum_lt {x y : Nat} (hx : x < rN) (hy : y < rN) : x + y < frB := by have := frM_two; omega
theorem fr_ltE {x : Nat} (h : x < frB) : x < 2 ^ (64 * 4) := Nat.lt_of_lt_of_eq h frB_eq

set_option maxRecDepth 20000 in
set_option maxHeartbeats 4000000 in
theorem frAdd_v (a b : Nat) (w : World) (ha : a < frB) (hb : b < frB) (v : Nat) (hv : v = (a + b) % rN) :
    Calls Try.prog 24 #[frV a, frV b] w (Is (frV v) w) := by
  obtain ⟨x, hx⟩ : ∃ x, x = a % rN := ⟨_, rfl⟩
  obtain ⟨y, hy⟩ : ∃ y, y = b % rN := ⟨_, rfl⟩
  have HXM := Lib.hid (show x < rN by rw [hx]; exact frM_mod a)
  have HYM := Lib.hid (show y < rN by rw [hy]; exact frM_mod b)
  have HXB := Lib.hid (Nat.lt_trans HXM.out frM_lt)
  have HYB := Lib.hid (Nat.lt_trans HYM.out frM_lt)
  obtain ⟨s, hs⟩ : ∃ s, s = x + y := ⟨_, rfl⟩
  have HSB := Lib.hid (show s < frB by rw [hs]; exact frsum_lt HXM.out HYM.out)
  have HS := Lib.hid hs
  have HV := Lib.hid (show v = s % rN by rw [hv, hs, hx, hy, ← Nat.add_mod])
  clear hs hv
  have HX := Lib.hid hx
  have HY := Lib.hid hy
  have HA := Lib.hid ha
  have HB := Lib.hid hb
  obtain ⟨w3, hw3, a1, a2, a3, hb0, hsz⟩ := fr_lay_vvz 41 w a b
  have HW := Lib.hid hw3
  have A1 := Lib.hid a1
  have A2 := Lib.hid a2
  have A3 := Lib.hid a3
  have HB0 := Lib.hid hb0
  clear hx hy ha hb hw3 a1 a2 a3 hb0 hsz
  go_enter Try.func24, Try.ntmps24
  go_wp2_with fail
  rw [HW.out]
  clear HW
  have c0 : w3.drew.cell? ⟨w.heap.size, 0, none⟩ = _ := A1.out.frc0
  have c1 : w3.drew.cell? ⟨w.heap.size, 1, none⟩ = _ := A1.out.frc1
  have c2 : w3.drew.cell? ⟨w.heap.size, 2, none⟩ = _ := A1.out.frc2
  have c3 : w3.drew.cell? ⟨w.heap.size, 3, none⟩ = _ := A1.out.frc3
  have d0 : w3.drew.cell? ⟨w.heap.size + 1, 0, none⟩ = _ := A2.out.frc0
  have d1 : w3.drew.cell? ⟨w.heap.size + 1, 1, none⟩ = _ := A2.out.frc1
  have d2 : w3.drew.cell? ⟨w.heap.size + 1, 2, none⟩ = _ := A2.out.frc2
  have d3 : w3.drew.cell? ⟨w.heap.size + 1, 3, none⟩ = _ := A2.out.frc3
  go_region_with (go_at_call 23; first
    | ((with_reducible refine (frClean_v a _ HA.out x HX.out).mono ?_); rintro e Y1 ⟨rfl, hb1⟩; have hb1' : Below w3.heap.size w3 Y1 := (Below.refl w3.heap.size w3).drew.trans hb1; have k0 := (A2.out.keep hb1').frc0; have k1 := (A2.out.keep hb1').frc1; have k2 := (A2.out.keep hb1').frc2; have k3 := (A2.out.keep hb1').frc3; have HB1 := Lib.hid hb1'; clear hb1 hb1')
    | ((with_reducible refine (frClean_v b _ HB.out y HY.out).mono ?_); rintro e Y2 ⟨rfl, hb2⟩; have hb2' : Below w3.heap.size w3 Y2 := below_then HB1.out hb2; have p1 := A1.out.keep hb2'; have p2 := A2.out.keep hb2'; have l0 := p1.frc0; have l1 := p1.frc1; have l2 := p1.frc2; have l3 := p1.frc3; have m0 := p2.frc0; have m1 := p2.frc1; have m2 := p2.frc2; have m3 := p2.frc3; have q0 := p1.frozen 0; have q1 := p1.frozen 1; have q2 := p1.frozen 2; have q3 := p1.frozen 3; have s0 := p2.frozen 0; have s1 := p2.frozen 1; have s2 := p2.frozen 2; have s3 := p2.frozen 3; have P1 := Lib.hid p1; have P2 := Lib.hid p2; have HB2 := Lib.hid hb2'; clear hb2 hb2' p1 p2))
  all_goals
    obtain ⟨W, hW, o1, o2, oo, ob, osz⟩ := fr_two P1.out P2.out (by omega : w.heap.size ≠ w.heap.size + 1) x y
    have hp3 : w.heap.size + 1 + 1 < w3.heap.size := A3.out.lt
    have O1 := Lib.hid o1
    have O2 := Lib.hid o2
    have O3 := Lib.hid (oo _ _ _ (by omega : w.heap.size + 1 + 1 ≠ w.heap.size) (by omega : w.heap.size + 1 + 1 ≠ w.heap.size + 1) (A3.out.keep HB2.out))
    have OB := Lib.hid (ob _ _ (below_then HB0.out HB2.out) (Nat.le_refl _) (Nat.le_succ _))
    have HW := Lib.hid hW
    clear hW o1 o2 oo ob osz P1 P2 HB1 HB2 hp3
    go_wp2_with fail
    rw [HW.out]
    clear HW c0 c1 c2 c3 d0 d1 d2 d3 k0 k1 k2 k3 l0 l1 l2 l3 m0 m1 m2 m3 q0 q1 q2 q3 s0 s1 s2 s3
    go_region_with (go_at_call 46; refine (natAdd_of _ _ x y _ (by decide) (fr_ltE HXB.out) (fr_ltE HYB.out) O1.out.vrow.drew O2.out.vrow.drew).mono ?_; rintro e w4 ⟨g, cc, rfl, ho, hg, hb4⟩; have hb4' : Below W.heap.size W w4 := (Below.refl W.heap.size W).drew.trans hb4; rw [← HS.out] at ho; have V4 := Lib.hid ho.vrow; have Z4 := Lib.hid (O3.out.keep hb4'); have HB4 := Lib.hid (below_then OB.out hb4'); clear ho hg hb4 hb4')
    all_goals
      go_wp2_with fail
      refine (frnumber_v _ 4 4 s _ rfl V4.out).mono ?_
      rintro e w5 ⟨rfl, hb5⟩
      have Z5 := Lib.hid (Z4.out.keep hb5)
      have HB5 := Lib.hid (below_then HB4.out hb5)
      clear hb5
      go_wp2_with fail
      refine (frClean_v s _ HSB.out v HV.out).mono ?_
      rintro e w6 ⟨rfl, hb6⟩
      have ZE := Z5.out.keep hb6
      have m0 := ZE.frc0
      have m1 := ZE.frc1
      have m2 := ZE.frc2
      have m3 := ZE.frc3
      have q0 := ZE.frozen 0
      have q1 := ZE.frozen 1
      have q2 := ZE.frozen 2
      have q3 := ZE.frozen 3
      have HBE := Lib.hid (below_then HB5.out hb6)
      clear hb6 ZE
      go_wp2
      refine bodyPost_ret (v := frV v) (by simp [results, Try.results24, go_sem, m0, m1, m2, m3]) rfl ⟨rfl, ?_⟩
      exact fr_below HBE.out (by omega) _ _ _ _
end Go.Proofs.Yticglgegfebnjaa

/- What is proved here: contracts of fr.Add; the contract of fr.Mul. -/
import Derived.Test.YtmhieifjmgcbkaaGreatFn1Fr
namespace Go.Proofs.YtmhieifjmgcbkaaGreat
section
open Go.RowKit

theorem frsum_lt {x y : Nat} (hx : x < rN) (hy : y < rN) : x + y < frB := by have := frM_two; omega
theorem fr_ltE {x : Nat} (h : x < frB) : x < 2 ^ (64 * 4) := Nat.lt_of_lt_of_eq h frB_eq

set_option maxRecDepth 20000 in
set_option maxHeartbeats 4000000 in
theorem frAdd_v (a b : Nat) (w : World) (ha : a < frB) (hb : b < frB) (v : Nat) (hv : v = (a + b) % rN) :
    Calls Tryz.prog 20 #[frV a, frV b] w (Is (frV v) w) := by
  obtain ⟨x, hx⟩ : ∃ x, x = a % rN := ⟨_, rfl⟩
  obtain ⟨y, hy⟩ : ∃ y, y = b % rN := ⟨_, rfl⟩
  have HXM := Lib.hid (show x < rN by rw [hx]; exact frM_mod a)
  have HYM := Lib.hid (show y < rN by rw [hy]; exact frM_mod b)
  have HXB := Lib.hid (Nat.lt_trans HXM.out frM_lt)
  have HYB := Lib.hid (Nat.lt_trans HYM.out frM_lt)
  obtain ⟨s, hs⟩ : ∃ s, s = x + y := ⟨_, rfl⟩
  have HSB := Lib.hid (show s < frB by rw [hs]; exact frsum_lt HXM.out HYM.out)
  have HS := Lib.hid hs
  have HV := Lib.hid (show v = s % rN by rw [hv, hs, hx, hy, ← Nat.add_mod])
  clear hs hv
  have HX := Lib.hid hx
  have HY := Lib.hid hy
  have HA := Lib.hid ha
  have HB := Lib.hid hb
  obtain ⟨w3, hw3, a1, a2, a3, hb0, hsz⟩ := fr_lay_vvz 41 w a b
  have HW := Lib.hid hw3
  have A1 := Lib.hid a1
  have A2 := Lib.hid a2
  have A3 := Lib.hid a3
  have HB0 := Lib.hid hb0
  clear hx hy ha hb hw3 a1 a2 a3 hb0 hsz
  go_enter Tryz.func20, Tryz.ntmps20
  go_wp2_with fail
  rw [HW.out]
  clear HW
  have c0 : w3.drew.cell? ⟨w.heap.size, 0, none⟩ = _ := A1.out.frc0
  have c1 : w3.drew.cell? ⟨w.heap.size, 1, none⟩ = _ := A1.out.frc1
  have c2 : w3.drew.cell? ⟨w.heap.size, 2, none⟩ = _ := A1.out.frc2
  have c3 : w3.drew.cell? ⟨w.heap.size, 3, none⟩ = _ := A1.out.frc3
  have d0 : w3.drew.cell? ⟨w.heap.size + 1, 0, none⟩ = _ := A2.out.frc0
  have d1 : w3.drew.cell? ⟨w.heap.size + 1, 1, none⟩ = _ := A2.out.frc1
  have d2 : w3.drew.cell? ⟨w.heap.size + 1, 2, none⟩ = _ := A2.out.frc2
  have d3 : w3.drew.cell? ⟨w.heap.size + 1, 3, none⟩ = _ := A2.out.frc3
  go_region_with (go_at_call 19; first
    | ((with_reducible refine (frClean_v a _ HA.out x HX.out).mono ?_); rintro e Y1 ⟨rfl, hb1⟩; have hb1' : Below w3.heap.size w3 Y1 := (Below.refl w3.heap.size w3).drew.trans hb1; have k0 := (A2.out.keep hb1').frc0; have k1 := (A2.out.keep hb1').frc1; have k2 := (A2.out.keep hb1').frc2; have k3 := (A2.out.keep hb1').frc3; have HB1 := Lib.hid hb1'; clear hb1 hb1')
    | ((with_reducible refine (frClean_v b _ HB.out y HY.out).mono ?_); rintro e Y2 ⟨rfl, hb2⟩; have hb2' : Below w3.heap.size w3 Y2 := below_then HB1.out hb2; have p1 := A1.out.keep hb2'; have p2 := A2.out.keep hb2'; have l0 := p1.frc0; have l1 := p1.frc1; have l2 := p1.frc2; have l3 := p1.frc3; have m0 := p2.frc0; have m1 := p2.frc1; have m2 := p2.frc2; have m3 := p2.frc3; have q0 := p1.frozen 0; have q1 := p1.frozen 1; have q2 := p1.frozen 2; have q3 := p1.frozen 3; have s0 := p2.frozen 0; have s1 := p2.frozen 1; have s2 := p2.frozen 2; have s3 := p2.frozen 3; have P1 := Lib.hid p1; have P2 := Lib.hid p2; have HB2 := Lib.hid hb2'; clear hb2 hb2' p1 p2))
  all_goals
    obtain ⟨W, hW, o1, o2, oo, ob, osz⟩ := fr_two P1.out P2.out (by omega : w.heap.size ≠ w.heap.size + 1) x y
    have hp3 : w.heap.size + 1 + 1 < w3.heap.size := A3.out.lt
    have O1 := Lib.hid o1
    have O2 := Lib.hid o2
    have O3 := Lib.hid (oo _ _ _ (by omega : w.heap.size + 1 + 1 ≠ w.heap.size) (by omega : w.heap.size + 1 + 1 ≠ w.heap.size + 1) (A3.out.keep HB2.out))
    have OB := Lib.hid (ob _ _ (below_then HB0.out HB2.out) (Nat.le_refl _) (Nat.le_succ _))
    have HW := Lib.hid hW
    clear hW o1 o2 oo ob osz P1 P2 HB1 HB2 hp3
    go_wp2_with fail
    rw [HW.out]
    clear HW c0 c1 c2 c3 d0 d1 d2 d3 k0 k1 k2 k3 l0 l1 l2 l3 m0 m1 m2 m3 q0 q1 q2 q3 s0 s1 s2 s3
    go_region_with (go_at_call 42; refine (natAdd_of _ _ x y _ (by decide) (fr_ltE HXB.out) (fr_ltE HYB.out) O1.out.vrow.drew O2.out.vrow.drew).mono ?_; rintro e w4 ⟨g, cc, rfl, ho, hg, hb4⟩; have hb4' : Below W.heap.size W w4 := (Below.refl W.heap.size W).drew.trans hb4; rw [← HS.out] at ho; have V4 := Lib.hid ho.vrow; have Z4 := Lib.hid (O3.out.keep hb4'); have HB4 := Lib.hid (below_then OB.out hb4'); clear ho hg hb4 hb4')
    all_goals
      go_wp2_with fail
      refine (frnumber_v _ 4 4 s _ rfl V4.out).mono ?_
      rintro e w5 ⟨rfl, hb5⟩
      have Z5 := Lib.hid (Z4.out.keep hb5)
      have HB5 := Lib.hid (below_then HB4.out hb5)
      clear hb5
      go_wp2_with fail
      refine (frClean_v s _ HSB.out v HV.out).mono ?_
      rintro e w6 ⟨rfl, hb6⟩
      have ZE := Z5.out.keep hb6
      have m0 := ZE.frc0
      have m1 := ZE.frc1
      have m2 := ZE.frc2
      have m3 := ZE.frc3
      have q0 := ZE.frozen 0
      have q1 := ZE.frozen 1
      have q2 := ZE.frozen 2
      have q3 := ZE.frozen 3
      have HBE := Lib.hid (below_then HB5.out hb6)
      clear hb6 ZE
      go_wp2
      refine bodyPost_ret (v := frV v) (by simp [results, Tryz.results20, go_sem, m0, m1, m2, m3]) rfl ⟨rfl, ?_⟩
      exact fr_below HBE.out (by omega) _ _ _ _
end

section
open Go.RowKit

theorem frisMod : IsMod 4 (row 4 rN) := ⟨by decide, by decide, by rw [frval_M]; exact frM_odd, by rw [frval_M]; decide +kernel⟩

/-- The first product. -/
def frPart (x y : Nat) : Nat := fromOf rN (64 * 4) (x * y % rN)

theorem frPart_lt (x y : Nat) : frPart x y < rN := fromOf_lt frM_odd (frM_mod _) _

theorem frpart_back {M k x y S : Nat} (hM : M % 2 = 1) (h0 : 0 < M) (hS : S = 2 ^ k * 2 ^ k % M) : fromOf M k (fromOf M k (x * y % M) * S % M) = x * y % M := by
  refine (fromOf_eq hM (Nat.mod_lt _ h0) (Nat.mod_lt _ h0) ?_).symm
  have h := fromOf_pow (M := M) hM (Nat.mod_lt (x * y) h0) k
  rw [hS, Nat.mul_mod_mod, ← Nat.mul_assoc, Nat.mul_mod (fromOf M k (x * y % M) * 2 ^ k), h, ← Nat.mul_mod, Nat.mod_mul_mod]

theorem frPart_back (x y : Nat) : fromOf rN (64 * 4) (frPart x y * frSq % rN) = x * y % rN := frpart_back frM_odd frM_pos frSq_eq

set_option maxRecDepth 20000 in
set_option maxHeartbeats 4000000 in
theorem frMul_v (a b : Nat) (w : World) (ha : a < frB) (hb : b < frB) (v : Nat) (hv : v = a * b % rN) :
    Calls Tryz.prog 21 #[frV a, frV b] w (Is (frV v) w) := by
  obtain ⟨x, hx⟩ : ∃ x, x = a % rN := ⟨_, rfl⟩
  obtain ⟨y, hy⟩ : ∃ y, y = b % rN := ⟨_, rfl⟩
  have HXM := Lib.hid (show x < rN by rw [hx]; exact frM_mod a)
  have HYM := Lib.hid (show y < rN by rw [hy]; exact frM_mod b)
  have HXB := Lib.hid (Nat.lt_trans HXM.out frM_lt)
  have HYB := Lib.hid (Nat.lt_trans HYM.out frM_lt)
  obtain ⟨d, hd⟩ : ∃ d, d = frPart x y := ⟨_, rfl⟩
  have HDM := Lib.hid (show d < rN by rw [hd]; exact frPart_lt x y)
  have HDB := Lib.hid (Nat.lt_trans HDM.out frM_lt)
  have HD := Lib.hid (show fromOf (val (row 4 rN)) (64 * 4) (val (row 4 x) * val (row 4 y) % val (row 4 rN)) = d by rw [frval HXB.out, frval HYB.out, frval_M, hd]; rfl)
  have HV := Lib.hid (show fromOf (val (row 4 rN)) (64 * 4) (val (row 4 d) * val (row 4 frSq) % val (row 4 rN)) = v by rw [frval HDB.out, frval frSq_ltB, frval_M, hd, frPart_back, hv, hx, hy, ← Nat.mul_mod])
  have HXV := Lib.hid (show val (row 4 x) < val (row 4 rN) by rw [frval HXB.out, frval_M]; exact HXM.out)
  have HYV := Lib.hid (show val (row 4 y) < val (row 4 rN) by rw [frval HYB.out, frval_M]; exact HYM.out)
  have HDV := Lib.hid (show val (row 4 d) < val (row 4 rN) by rw [frval HDB.out, frval_M]; exact HDM.out)
  have HQV := Lib.hid (show val (row 4 frSq) < val (row 4 rN) by rw [frval frSq_ltB, frval_M]; exact frSq_lt)
  clear hd hv
  have HX := Lib.hid hx
  have HY := Lib.hid hy
  have HA := Lib.hid ha
  have HB := Lib.hid hb
  obtain ⟨w3, hw3, a1, a2, a3, hb0, hsz⟩ := fr_lay_vvz 41 w a b
  have HW := Lib.hid hw3
  have A1 := Lib.hid a1
  have A2 := Lib.hid a2
  have A3 := Lib.hid a3
  have HB0 := Lib.hid hb0
  clear hx hy ha hb hw3 a1 a2 a3 hb0 hsz
  go_enter Tryz.func21, Tryz.ntmps21
  go_wp2_with fail
  rw [HW.out]
  clear HW
  have c0 : w3.drew.cell? ⟨w.heap.size, 0, none⟩ = _ := A1.out.frc0
  have c1 : w3.drew.cell? ⟨w.heap.size, 1, none⟩ = _ := A1.out.frc1
  have c2 : w3.drew.cell? ⟨w.heap.size, 2, none⟩ = _ := A1.out.frc2
  have c3 : w3.drew.cell? ⟨w.heap.size, 3, none⟩ = _ := A1.out.frc3
  have d0 : w3.drew.cell? ⟨w.heap.size + 1, 0, none⟩ = _ := A2.out.frc0
  have d1 : w3.drew.cell? ⟨w.heap.size + 1, 1, none⟩ = _ := A2.out.frc1
  have d2 : w3.drew.cell? ⟨w.heap.size + 1, 2, none⟩ = _ := A2.out.frc2
  have d3 : w3.drew.cell? ⟨w.heap.size + 1, 3, none⟩ = _ := A2.out.frc3
  go_region_with (go_at_call 19; first
    | ((with_reducible refine (frClean_v a _ HA.out x HX.out).mono ?_); rintro e Y1 ⟨rfl, hb1⟩; have hb1' : Below w3.heap.size w3 Y1 := (Below.refl w3.heap.size w3).drew.trans hb1; have k0 := (A2.out.keep hb1').frc0; have k1 := (A2.out.keep hb1').frc1; have k2 := (A2.out.keep hb1').frc2; have k3 := (A2.out.keep hb1').frc3; have HB1 := Lib.hid hb1'; clear hb1 hb1')
    | ((with_reducible refine (frClean_v b _ HB.out y HY.out).mono ?_); rintro e Y2 ⟨rfl, hb2⟩; have hb2' : Below w3.heap.size w3 Y2 := below_then HB1.out hb2; have p1 := A1.out.keep hb2'; have p2 := A2.out.keep hb2'; have l0 := p1.frc0; have l1 := p1.frc1; have l2 := p1.frc2; have l3 := p1.frc3; have m0 := p2.frc0; have m1 := p2.frc1; have m2 := p2.frc2; have m3 := p2.frc3; have q0 := p1.frozen 0; have q1 := p1.frozen 1; have q2 := p1.frozen 2; have q3 := p1.frozen 3; have s0 := p2.frozen 0; have s1 := p2.frozen 1; have s2 := p2.frozen 2; have s3 := p2.frozen 3; have P1 := Lib.hid p1; have P2 := Lib.hid p2; have HB2 := Lib.hid hb2'; clear hb2 hb2' p1 p2))
  all_goals
    obtain ⟨W, hW, o1, o2, oo, ob, osz⟩ := fr_two P1.out P2.out (by omega : w.heap.size ≠ w.heap.size + 1) x y
    have hp3 : w.heap.size + 1 + 1 < w3.heap.size := A3.out.lt
    have O1 := Lib.hid o1
    have O2 := Lib.hid o2
    have O3 := Lib.hid (oo _ _ _ (by omega : w.heap.size + 1 + 1 ≠ w.heap.size) (by omega : w.heap.size + 1 + 1 ≠ w.heap.size + 1) (A3.out.keep HB2.out))
    have OB := Lib.hid (ob _ _ (below_then HB0.out HB2.out) (Nat.le_refl _) (Nat.le_succ _))
    have HW := Lib.hid hW
    clear hW o1 o2 oo ob osz P1 P2 HB1 HB2 hp3
    go_wp2_with fail
    rw [HW.out]
    clear HW c0 c1 c2 c3 d0 d1 d2 d3 k0 k1 k2 k3 l0 l1 l2 l3 m0 m1 m2 m3 q0 q1 q2 q3 s0 s1 s2 s3
    refine (frorder_v _).mono ?_
    rintro e w4 ⟨rfl, hb4⟩
    have U1 := Lib.hid (O1.out.keep hb4)
    have U2 := Lib.hid (O2.out.keep hb4)
    have U3 := Lib.hid (O3.out.keep hb4)
    have UB := Lib.hid (below_then OB.out hb4)
    clear hb4 O1 O2 O3 OB
    go_wp2_with fail
    refine (frsquare_v _).mono ?_
    rintro e w5 ⟨rfl, hb5⟩
    obtain ⟨w6, hw6, a6, b6, hb6, hs6⟩ := fr_lay_vv 41 w5 rN frSq
    have HW6 := Lib.hid hw6
    have X1 := Lib.hid ((U1.out.keep hb5).keep hb6).vrow
    have X2 := Lib.hid ((U2.out.keep hb5).keep hb6).vrow
    have X3 := Lib.hid ((U3.out.keep hb5).keep hb6)
    have X4 := Lib.hid a6.vrow
    have X5 := Lib.hid b6.vrow
    have XB := Lib.hid (below_then UB.out (below_then hb5 hb6))
    clear hw6 a6 b6 hb5 hb6 hs6 U1 U2 U3 UB
    go_wp2_with fail
    rw [HW6.out]
    clear HW6
    go_region_with (go_at_call 46; refine (montMul_any _ 4 _ _ 4 _ _ 4 4 _ _ (by decide) (by decide) (by decide) (by decide) (by decide) (by decide) X1.out.drew X2.out.drew X4.out.drew frisMod HXV.out HYV.out).mono ?_; rintro e w7 ⟨g7, rfl, ho7, hg7, hb7⟩; have hb7' : Below w6.heap.size w6 w7 := (Below.refl w6.heap.size w6).drew.trans hb7; rw [HD.out] at ho7; have D1 := Lib.hid ho7.vrow; have D3 := Lib.hid (X3.out.keep hb7'); have D4 := Lib.hid (X4.out.below (Nat.le_refl _) hb7'); have D5 := Lib.hid (X5.out.below (Nat.le_refl _) hb7'); have DB := Lib.hid (below_then XB.out hb7'); clear ho7 hg7 hb7 hb7')
    all_goals
      clear X1 X2 X3 X4 X5 XB
      go_wp2_with fail
      go_region_with (go_at_call 46; refine (montMul_any _ 4 _ _ 4 _ _ 4 4 _ _ (by decide) (by decide) (by decide) (by decide) (by decide) (by decide) D1.out.drew D5.out.drew D4.out.drew frisMod HDV.out HQV.out).mono ?_; rintro e w8 ⟨g8, rfl, ho8, hg8, hb8⟩; have hb8' : Below w7.heap.size w7 w8 := (Below.refl w7.heap.size w7).drew.trans hb8; rw [HV.out] at ho8; have E1 := Lib.hid ho8.vrow; have E3 := Lib.hid (D3.out.keep hb8'); have EB := Lib.hid (below_then DB.out hb8'); clear ho8 hg8 hb8 hb8')
      all_goals
        clear D1 D3 D4 D5 DB
        go_wp2_with fail
        refine (frnumber_v _ 4 4 v _ rfl E1.out).mono ?_
        rintro e w9 ⟨rfl, hb9⟩
        have ZE := E3.out.keep hb9
        have m0 := ZE.frc0
        have m1 := ZE.frc1
        have m2 := ZE.frc2
        have m3 := ZE.frc3
        have q0 := ZE.frozen 0
        have q1 := ZE.frozen 1
        have q2 := ZE.frozen 2
        have q3 := ZE.frozen 3
        have HBE := Lib.hid (below_then EB.out hb9)
        clear hb9 ZE
        go_wp2
        refine bodyPost_ret (v := frV v) (by simp [results, Tryz.results21, go_sem, m0, m1, m2, m3]) rfl ⟨rfl, ?_⟩
        exact fr_below HBE.out (by omega) _ _ _ _
end
end Go.Proofs.YtmhieifjmgcbkaaGreat

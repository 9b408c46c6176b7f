/- What is proved here: the contract of fp.Mul. -/
import Derived.Test.YtmhieifjmgcbkaaFn2Fp
namespace Go.Proofs.Ytmhieifjmgcbkaa
open Go.RowKit

theorem fpisMod : IsMod 6 (row 6 pN) := ⟨by decide, by decide, by rw [fpval_M]; exact fpM_odd, by rw [fpval_M]; decide +kernel⟩

/-- The first product. -/
def fpPart (x y : Nat) : Nat := fromOf pN (64 * 6) (x * y % pN)

theorem fpPart_lt (x y : Nat) : fpPart x y < pN := fromOf_lt fpM_odd (fpM_mod _) _

theorem fppart_back {M k x y S : Nat} (hM : M % 2 = 1) (h0 : 0 < M) (hS : S = 2 ^ k * 2 ^ k % M) : fromOf M k (fromOf M k (x * y % M) * S % M) = x * y % M := by
  refine (fromOf_eq hM (Nat.mod_lt _ h0) (Nat.mod_lt _ h0) ?_).symm
  have h := fromOf_pow (M := M) hM (Nat.mod_lt (x * y) h0) k
  rw [hS, Nat.mul_mod_mod, ← Nat.mul_assoc, Nat.mul_mod (fromOf M k (x * y % M) * 2 ^ k), h, ← Nat.mul_mod, Nat.mod_mul_mod]

theorem fpPart_back (x y : Nat) : fromOf pN (64 * 6) (fpPart x y * fpSq % pN) = x * y % pN := fppart_back fpM_odd fpM_pos fpSq_eq

set_option maxRecDepth 20000 in
set_option maxHeartbeats 4000000 in
theorem fpMul_v (a b : Nat) (w : World) (ha : a < fpB) (hb : b < fpB) (v : Nat) (hv : v = a * b % pN) :
    Calls Try.prog 60 #[fpV a, fpV b] w (Is (fpV v) w) := by
  obtain ⟨x, hx⟩ : ∃ x, x = a % pN := ⟨_, rfl⟩
  obtain ⟨y, hy⟩ : ∃ y, y = b % pN := ⟨_, rfl⟩
  have HXM := Lib.hid (show x < pN by rw [hx]; exact fpM_mod a)
  have HYM := Lib.hid (show y < pN by rw [hy]; exact fpM_mod b)
  have HXB := Lib.hid (Nat.lt_trans HXM.out fpM_lt)
  have HYB := Lib.hid (Nat.lt_trans HYM.out fpM_lt)
  obtain ⟨d, hd⟩ : ∃ d, d = fpPart x y := ⟨_, rfl⟩
  have HDM := Lib.hid (show d < pN by rw [hd]; exact fpPart_lt x y)
  have HDB := Lib.hid (Nat.lt_trans HDM.out fpM_lt)
  have HD := Lib.hid (show fromOf (val (row 6 pN)) (64 * 6) (val (row 6 x) * val (row 6 y) % val (row 6 pN)) = d by rw [fpval HXB.out, fpval HYB.out, fpval_M, hd]; rfl)
  have HV := Lib.hid (show fromOf (val (row 6 pN)) (64 * 6) (val (row 6 d) * val (row 6 fpSq) % val (row 6 pN)) = v by rw [fpval HDB.out, fpval fpSq_ltB, fpval_M, hd, fpPart_back, hv, hx, hy, ← Nat.mul_mod])
  have HXV := Lib.hid (show val (row 6 x) < val (row 6 pN) by rw [fpval HXB.out, fpval_M]; exact HXM.out)
  have HYV := Lib.hid (show val (row 6 y) < val (row 6 pN) by rw [fpval HYB.out, fpval_M]; exact HYM.out)
  have HDV := Lib.hid (show val (row 6 d) < val (row 6 pN) by rw [fpval HDB.out, fpval_M]; exact HDM.out)
  have HQV := Lib.hid (show val (row 6 fpSq) < val (row 6 pN) by rw [fpval fpSq_ltB, fpval_M]; exact fpSq_lt)
  clear hd hv
  have HX := Lib.hid hx
  have HY := Lib.hid hy
  have HA := Lib.hid ha
  have HB := Lib.hid hb
  obtain ⟨w3, hw3, a1, a2, a3, hb0, hsz⟩ := fp_lay_vvz 24 w a b
  have HW := Lib.hid hw3
  have A1 := Lib.hid a1
  have A2 := Lib.hid a2
  have A3 := Lib.hid a3
  have HB0 := Lib.hid hb0
  clear hx hy ha hb hw3 a1 a2 a3 hb0 hsz
  go_enter Try.func60, Try.ntmps60
  go_wp2_with fail
  rw [HW.out]
  clear HW
  have c0 : w3.drew.cell? ⟨w.heap.size, 0, none⟩ = _ := A1.out.fpc0
  have c1 : w3.drew.cell? ⟨w.heap.size, 1, none⟩ = _ := A1.out.fpc1
  have c2 : w3.drew.cell? ⟨w.heap.size, 2, none⟩ = _ := A1.out.fpc2
  have c3 : w3.drew.cell? ⟨w.heap.size, 3, none⟩ = _ := A1.out.fpc3
  have c4 : w3.drew.cell? ⟨w.heap.size, 4, none⟩ = _ := A1.out.fpc4
  have c5 : w3.drew.cell? ⟨w.heap.size, 5, none⟩ = _ := A1.out.fpc5
  have d0 : w3.drew.cell? ⟨w.heap.size + 1, 0, none⟩ = _ := A2.out.fpc0
  have d1 : w3.drew.cell? ⟨w.heap.size + 1, 1, none⟩ = _ := A2.out.fpc1
  have d2 : w3.drew.cell? ⟨w.heap.size + 1, 2, none⟩ = _ := A2.out.fpc2
  have d3 : w3.drew.cell? ⟨w.heap.size + 1, 3, none⟩ = _ := A2.out.fpc3
  have d4 : w3.drew.cell? ⟨w.heap.size + 1, 4, none⟩ = _ := A2.out.fpc4
  have d5 : w3.drew.cell? ⟨w.heap.size + 1, 5, none⟩ = _ := A2.out.fpc5
  go_region_with (go_at_call 59; first
    | ((with_reducible refine (fpClean_v a _ HA.out x HX.out).mono ?_); rintro e Y1 ⟨rfl, hb1⟩; have hb1' : Below w3.heap.size w3 Y1 := (Below.refl w3.heap.size w3).drew.trans hb1; have k0 := (A2.out.keep hb1').fpc0; have k1 := (A2.out.keep hb1').fpc1; have k2 := (A2.out.keep hb1').fpc2; have k3 := (A2.out.keep hb1').fpc3; have k4 := (A2.out.keep hb1').fpc4; have k5 := (A2.out.keep hb1').fpc5; have HB1 := Lib.hid hb1'; clear hb1 hb1')
    | ((with_reducible refine (fpClean_v b _ HB.out y HY.out).mono ?_); rintro e Y2 ⟨rfl, hb2⟩; have hb2' : Below w3.heap.size w3 Y2 := below_then HB1.out hb2; have p1 := A1.out.keep hb2'; have p2 := A2.out.keep hb2'; have l0 := p1.fpc0; have l1 := p1.fpc1; have l2 := p1.fpc2; have l3 := p1.fpc3; have l4 := p1.fpc4; have l5 := p1.fpc5; have m0 := p2.fpc0; have m1 := p2.fpc1; have m2 := p2.fpc2; have m3 := p2.fpc3; have m4 := p2.fpc4; have m5 := p2.fpc5; have q0 := p1.frozen 0; have q1 := p1.frozen 1; have q2 := p1.frozen 2; have q3 := p1.frozen 3; have q4 := p1.frozen 4; have q5 := p1.frozen 5; have s0 := p2.frozen 0; have s1 := p2.frozen 1; have s2 := p2.frozen 2; have s3 := p2.frozen 3; have s4 := p2.frozen 4; have s5 := p2.frozen 5; have P1 := Lib.hid p1; have P2 := Lib.hid p2; have HB2 := Lib.hid hb2'; clear hb2 hb2' p1 p2))
  all_goals
    obtain ⟨W, hW, o1, o2, oo, ob, osz⟩ := fp_two P1.out P2.out (by omega : w.heap.size ≠ w.heap.size + 1) x y
    have hp3 : w.heap.size + 1 + 1 < w3.heap.size := A3.out.lt
    have O1 := Lib.hid o1
    have O2 := Lib.hid o2
    have O3 := Lib.hid (oo _ _ _ (by omega : w.heap.size + 1 + 1 ≠ w.heap.size) (by omega : w.heap.size + 1 + 1 ≠ w.heap.size + 1) (A3.out.keep HB2.out))
    have OB := Lib.hid (ob _ _ (below_then HB0.out HB2.out) (Nat.le_refl _) (Nat.le_succ _))
    have HW := Lib.hid hW
    clear hW o1 o2 oo ob osz P1 P2 HB1 HB2 hp3
    go_wp2_with fail
    rw [HW.out]
    clear HW c0 c1 c2 c3 c4 c5 d0 d1 d2 d3 d4 d5 k0 k1 k2 k3 k4 k5 l0 l1 l2 l3 l4 l5 m0 m1 m2 m3 m4 m5 q0 q1 q2 q3 q4 q5 s0 s1 s2 s3 s4 s5
    refine (fpmodulus_v _).mono ?_
    rintro e w4 ⟨rfl, hb4⟩
    have U1 := Lib.hid (O1.out.keep hb4)
    have U2 := Lib.hid (O2.out.keep hb4)
    have U3 := Lib.hid (O3.out.keep hb4)
    have UB := Lib.hid (below_then OB.out hb4)
    clear hb4 O1 O2 O3 OB
    go_wp2_with fail
    refine (fpsquare_v _).mono ?_
    rintro e w5 ⟨rfl, hb5⟩
    obtain ⟨w6, hw6, a6, b6, hb6, hs6⟩ := fp_lay_vv 24 w5 pN fpSq
    have HW6 := Lib.hid hw6
    have X1 := Lib.hid ((U1.out.keep hb5).keep hb6).vrow
    have X2 := Lib.hid ((U2.out.keep hb5).keep hb6).vrow
    have X3 := Lib.hid ((U3.out.keep hb5).keep hb6)
    have X4 := Lib.hid a6.vrow
    have X5 := Lib.hid b6.vrow
    have XB := Lib.hid (below_then UB.out (below_then hb5 hb6))
    clear hw6 a6 b6 hb5 hb6 hs6 U1 U2 U3 UB
    go_wp2_with fail
    rw [HW6.out]
    clear HW6
    go_region_with (go_at_call 76; refine (montMul_any _ 6 _ _ 6 _ _ 6 6 _ _ (by decide) (by decide) (by decide) (by decide) (by decide) (by decide) X1.out.drew X2.out.drew X4.out.drew fpisMod HXV.out HYV.out).mono ?_; rintro e w7 ⟨g7, rfl, ho7, hg7, hb7⟩; have hb7' : Below w6.heap.size w6 w7 := (Below.refl w6.heap.size w6).drew.trans hb7; rw [HD.out] at ho7; have D1 := Lib.hid ho7.vrow; have D3 := Lib.hid (X3.out.keep hb7'); have D4 := Lib.hid (X4.out.below (Nat.le_refl _) hb7'); have D5 := Lib.hid (X5.out.below (Nat.le_refl _) hb7'); have DB := Lib.hid (below_then XB.out hb7'); clear ho7 hg7 hb7 hb7')
    all_goals
      clear X1 X2 X3 X4 X5 XB
      go_wp2_with fail
      go_region_with (go_at_call 76; refine (montMul_any _ 6 _ _ 6 _ _ 6 6 _ _ (by decide) (by decide) (by decide) (by decide) (by decide) (by decide) D1.out.drew D5.out.drew D4.out.drew fpisMod HDV.out HQV.out).mono ?_; rintro e w8 ⟨g8, rfl, ho8, hg8, hb8⟩; have hb8' : Below w7.heap.size w7 w8 := (Below.refl w7.heap.size w7).drew.trans hb8; rw [HV.out] at ho8; have E1 := Lib.hid ho8.vrow; have E3 := Lib.hid (D3.out.keep hb8'); have EB := Lib.hid (below_then DB.out hb8'); clear ho8 hg8 hb8 hb8')
      all_goals
        clear D1 D3 D4 D5 DB
        go_wp2_with fail
        refine (fpnumber_v _ 6 6 v _ rfl E1.out).mono ?_
        rintro e w9 ⟨rfl, hb9⟩
        have ZE := E3.out.keep hb9
        have m0 := ZE.fpc0
        have m1 := ZE.fpc1
        have m2 := ZE.fpc2
        have m3 := ZE.fpc3
        have m4 := ZE.fpc4
        have m5 := ZE.fpc5
        have q0 := ZE.frozen 0
        have q1 := ZE.frozen 1
        have q2 := ZE.frozen 2
        have q3 := ZE.frozen 3
        have q4 := ZE.frozen 4
        have q5 := ZE.frozen 5
        have HBE := Lib.hid (below_then EB.out hb9)
        clear hb9 ZE
        go_wp2
        refine bodyPost_ret (v := fpV v) (by simp [results, Try.results60, go_sem, m0, m1, m2, m3, m4, m5]) rfl ⟨rfl, ?_⟩
        exact fp_below HBE.out (by omega) _ _ _ _ _ _
end Go.Proofs.Ytmhieifjmgcbkaa

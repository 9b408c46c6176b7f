/- What is proved here: contracts of the reference's Neg, Sub, Small and Inv (layer 4). -/
import Derived.Test.YthmdfjlmmfphiaaRef3Fp
namespace Go.Proofs.Ythmdfjlmmfphiaa
open Go.RowKit

/-- An array held against nothing. -/
theorem fp_eq0 (a : Nat) (ha : a < fpB) (r : Bool) (hr : r = decide (a = 0)) (W : World) : (Op.equalIn 10000 24 (.agg #[.int .u64 ((lb a 0 : Nat) : Int), .int .u64 ((lb a 1 : Nat) : Int), .int .u64 ((lb a 2 : Nat) : Int), .int .u64 ((lb a 3 : Nat) : Int), .int .u64 ((lb a 4 : Nat) : Int), .int .u64 ((lb a 5 : Nat) : Int)]) (.agg #[.int .u64 0, .int .u64 0, .int .u64 0, .int .u64 0, .int .u64 0, .int .u64 0])).run Try.prog W = .ok r W := by
  have := fp_eq a 0 W ha (fp_ltB (by decide)) r hr
  rwa [fp_lit0] at this

theorem fp_eq1 (a : Nat) (ha : a < fpB) (r : Bool) (hr : r = decide (a = 1)) (W : World) : (Op.equalIn 10000 24 (.agg #[.int .u64 ((lb a 0 : Nat) : Int), .int .u64 ((lb a 1 : Nat) : Int), .int .u64 ((lb a 2 : Nat) : Int), .int .u64 ((lb a 3 : Nat) : Int), .int .u64 ((lb a 4 : Nat) : Int), .int .u64 ((lb a 5 : Nat) : Int)]) (.agg #[.int .u64 1, .int .u64 0, .int .u64 0, .int .u64 0, .int .u64 0, .int .u64 0])).run Try.prog W = .ok r W := by
  have := fp_eq a 1 W ha (fp_ltB (by decide)) r hr
  rwa [fp_lit1] at this

set_option maxRecDepth 20000 in
set_option maxHeartbeats 4000000 in
theorem r4Neg_v (a : Nat) (w : World) (ha : a < pN) (v : Nat) (hv : v = (pN - a) % pN) :
    Calls Try.prog 25 #[fpV a] w (Is (fpV v) w) := by
  obtain ⟨w2, hw2, a1, a2, hb0, hsz⟩ := fp_lay_vz 24 w a
  have HW := Lib.hid hw2
  have A1 := Lib.hid a1
  have A2 := Lib.hid a2
  have HB0 := Lib.hid hb0
  clear hw2 a1 a2 hb0 hsz
  have HAB := Lib.hid (Nat.lt_trans ha fpM_lt)
  by_cases hz : a = 0
  · have hq := fp_eq0 a HAB.out true (decide_eq_true hz).symm
    have HE := Lib.hid (show v = a by rw [hv, hz, Nat.sub_zero, Nat.mod_self])
    clear hz hv ha
    obtain ⟨w2', h', _, _, hb', _⟩ := fp_lay_vv 24 w a a
    have HB' : Hid (Below w.heap.size w ((w.alloc (.cells #[.int .u64 ((lb a 0 : Nat) : Int), .int .u64 ((lb a 1 : Nat) : Int), .int .u64 ((lb a 2 : Nat) : Int), .int .u64 ((lb a 3 : Nat) : Int), .int .u64 ((lb a 4 : Nat) : Int), .int .u64 ((lb a 5 : Nat) : Int)] 24)).alloc (.cells #[.int .u64 ((lb a 0 : Nat) : Int), .int .u64 ((lb a 1 : Nat) : Int), .int .u64 ((lb a 2 : Nat) : Int), .int .u64 ((lb a 3 : Nat) : Int), .int .u64 ((lb a 4 : Nat) : Int), .int .u64 ((lb a 5 : Nat) : Int)] 24))) := (by rw [h']; exact hb' : Below _ _ _)
    clear h' hb' HW A1 A2 HB0
    go_enter Try.func25, Try.ntmps25
    go_wp2
    refine bodyPost_ret (v := fpV a) (by simp [results, Try.results25, go_sem]) rfl ⟨by rw [HE.out], ?_⟩
    exact HB'.out
  · have hq := fp_eq0 a HAB.out false (decide_eq_false hz).symm
    have HE := Lib.hid (show v = pN - a by rw [hv, Nat.mod_eq_of_lt (by omega)])
    have HAM := Lib.hid (Nat.le_of_lt ha)
    clear hz hv ha
    go_enter Try.func25, Try.ntmps25
    go_wp2_with fail
    rw [HW.out]
    have a1 := A1.out
    have c0 : w2.drew.cell? ⟨w.heap.size, 0, none⟩ = _ := a1.fpc0
    have c1 : w2.drew.cell? ⟨w.heap.size, 1, none⟩ = _ := a1.fpc1
    have c2 : w2.drew.cell? ⟨w.heap.size, 2, none⟩ = _ := a1.fpc2
    have c3 : w2.drew.cell? ⟨w.heap.size, 3, none⟩ = _ := a1.fpc3
    have c4 : w2.drew.cell? ⟨w.heap.size, 4, none⟩ = _ := a1.fpc4
    have c5 : w2.drew.cell? ⟨w.heap.size, 5, none⟩ = _ := a1.fpc5
    clear HW hq a1
    go_region_with (first
      | (go_at_call 15; refine (r4P_v _).mono ?_; rintro e y3 ⟨rfl, hb3⟩; have hb3' : Below w2.heap.size w2 y3 := (Below.refl w2.heap.size w2).drew.trans hb3; have k0 := (A1.out.keep hb3').fpc0; have k1 := (A1.out.keep hb3').fpc1; have k2 := (A1.out.keep hb3').fpc2; have k3 := (A1.out.keep hb3').fpc3; have k4 := (A1.out.keep hb3').fpc4; have k5 := (A1.out.keep hb3').fpc5; have HB3 := Lib.hid hb3'; clear hb3 hb3')
      | (go_at_call 43; refine (r4minus_v pN a _ fpM_lt HAM.out v HE.out).mono ?_; rintro e y4 ⟨rfl, hb4⟩; have hb4' := below_then HB3.out hb4; have p5 := A2.out.keep hb4'; have m0 := p5.fpc0; have m1 := p5.fpc1; have m2 := p5.fpc2; have m3 := p5.fpc3; have m4 := p5.fpc4; have m5 := p5.fpc5; have q0 := p5.frozen 0; have q1 := p5.frozen 1; have q2 := p5.frozen 2; have q3 := p5.frozen 3; have q4 := p5.frozen 4; have q5 := p5.frozen 5; have HB5 := Lib.hid (below_then HB0.out hb4'); clear hb4 hb4' p5))
    all_goals
      go_wp2
      refine bodyPost_ret (v := fpV v) (by simp [results, Try.results25, go_sem, m0, m1, m2, m3, m4, m5]) rfl ⟨rfl, ?_⟩
      exact fp_below HB5.out (by omega) _ _ _ _ _ _

set_option maxRecDepth 20000 in
set_option maxHeartbeats 4000000 in
theorem r4Sub_v (a b : Nat) (w : World) (ha : a < pN) (hb : b < pN) (v : Nat) (hv : v = (a + (pN - b)) % pN) :
    Calls Try.prog 23 #[fpV a, fpV b] w (Is (fpV v) w) := by
  obtain ⟨x, hx⟩ : ∃ x, x = (pN - b) % pN := ⟨_, rfl⟩
  have HXM := Lib.hid (show x < pN by rw [hx]; exact fpM_mod _)
  have HV := Lib.hid (show v = (a + x) % pN by rw [hv, hx, Nat.add_mod_mod])
  have HX := Lib.hid hx
  have HA := Lib.hid ha
  have HB := Lib.hid hb
  obtain ⟨w3, hw3, a1, a2, a3, hb0, hsz⟩ := fp_lay_vvz 24 w a b
  have HW := Lib.hid hw3
  have A1 := Lib.hid a1
  have A2 := Lib.hid a2
  have A3 := Lib.hid a3
  have HB0 := Lib.hid hb0
  clear hx ha hb hw3 a1 a2 a3 hb0 hsz hv
  go_enter Try.func23, Try.ntmps23
  go_wp2_with fail
  rw [HW.out]
  clear HW
  have c0 : w3.drew.cell? ⟨w.heap.size, 0, none⟩ = _ := A1.out.fpc0
  have c1 : w3.drew.cell? ⟨w.heap.size, 1, none⟩ = _ := A1.out.fpc1
  have c2 : w3.drew.cell? ⟨w.heap.size, 2, none⟩ = _ := A1.out.fpc2
  have c3 : w3.drew.cell? ⟨w.heap.size, 3, none⟩ = _ := A1.out.fpc3
  have c4 : w3.drew.cell? ⟨w.heap.size, 4, none⟩ = _ := A1.out.fpc4
  have c5 : w3.drew.cell? ⟨w.heap.size, 5, none⟩ = _ := A1.out.fpc5
  have d0 : w3.drew.cell? ⟨w.heap.size + 1, 0, none⟩ = _ := A2.out.fpc0
  have d1 : w3.drew.cell? ⟨w.heap.size + 1, 1, none⟩ = _ := A2.out.fpc1
  have d2 : w3.drew.cell? ⟨w.heap.size + 1, 2, none⟩ = _ := A2.out.fpc2
  have d3 : w3.drew.cell? ⟨w.heap.size + 1, 3, none⟩ = _ := A2.out.fpc3
  have d4 : w3.drew.cell? ⟨w.heap.size + 1, 4, none⟩ = _ := A2.out.fpc4
  have d5 : w3.drew.cell? ⟨w.heap.size + 1, 5, none⟩ = _ := A2.out.fpc5
  go_region_with (first
    | (go_at_call 25; refine (r4Neg_v b _ HB.out x HX.out).mono ?_; rintro e Y1 ⟨rfl, hb1⟩; have hb1' : Below w3.heap.size w3 Y1 := (Below.refl w3.heap.size w3).drew.trans hb1; have k0 := (A1.out.keep hb1').fpc0; have k1 := (A1.out.keep hb1').fpc1; have k2 := (A1.out.keep hb1').fpc2; have k3 := (A1.out.keep hb1').fpc3; have k4 := (A1.out.keep hb1').fpc4; have k5 := (A1.out.keep hb1').fpc5; have HB1 := Lib.hid hb1'; clear hb1 hb1')
    | (go_at_call 21; refine (r4Add_v a x _ (fpsum_lt HA.out HXM.out) v HV.out).mono ?_; rintro e Y2 ⟨rfl, hb2⟩; have hb2' := below_then HB1.out hb2; have a5 := A3.out.keep hb2'; have m0 := a5.fpc0; have m1 := a5.fpc1; have m2 := a5.fpc2; have m3 := a5.fpc3; have m4 := a5.fpc4; have m5 := a5.fpc5; have q0 := a5.frozen 0; have q1 := a5.frozen 1; have q2 := a5.frozen 2; have q3 := a5.frozen 3; have q4 := a5.frozen 4; have q5 := a5.frozen 5; have HB2 := Lib.hid (below_then HB0.out hb2'); clear hb2 hb2' a5))
  all_goals
    go_wp2
    refine bodyPost_ret (v := fpV v) (by simp [results, Try.results23, go_sem, m0, m1, m2, m3, m4, m5]) rfl ⟨rfl, ?_⟩
    exact fp_below HB2.out (by omega) _ _ _ _ _ _

/-- What a small number leaves, modulo pN. -/
def fpSmallOf (n : Int) : Nat := (n % (pN : Int)).toNat

theorem fpsmall_pos {n : Int} (h0 : 0 ≤ n) (h1 : n ≤ 9223372036854775807) : fpSmallOf n = n.toNat := by
  unfold fpSmallOf
  have : n < (pN : Int) := Int.lt_of_le_of_lt h1 (by decide +kernel)
  rw [Int.emod_eq_of_lt h0 this]

theorem fpsmall_neg {n : Int} (h0 : n < 0) (h1 : -9223372036854775808 ≤ n) : fpSmallOf n = pN - (-n).toNat := by
  unfold fpSmallOf
  have hr : (9223372036854775808 : Int) < (pN : Int) := by decide +kernel
  have e : n % (pN : Int) = n + pN := by
    rw [← Int.add_emod_right, Int.emod_eq_of_lt (by omega) (by omega)]
  rw [e]
  omega

theorem fpsmall_le {N : Nat} (h : N ≤ 9223372036854775808) : N ≤ pN := Nat.le_trans h (by decide +kernel)

set_option maxRecDepth 20000 in
set_option maxHeartbeats 4000000 in
theorem r4Small_v (n : Int) (w : World) (h0 : -9223372036854775808 ≤ n) (h1 : n ≤ 9223372036854775807) (v : Nat) (hv : v = fpSmallOf n) :
    Calls Try.prog 19 #[.int .i64 n] w (Is (fpV v) w) := by
  by_cases h : 0 ≤ n
  · obtain ⟨N, rfl⟩ := Int.eq_ofNat_of_zero_le h
    have HE := Lib.hid (show fpV v = .agg #[.int .u64 (N : Int), .int .u64 0, .int .u64 0, .int .u64 0, .int .u64 0, .int .u64 0] by rw [hv, fpsmall_pos h h1, Int.toNat_natCast]; exact fp_small (by omega))
    have hb := Lib.hid (below_alloc w (.cells #[.int .u64 (N : Int), .int .u64 0, .int .u64 0, .int .u64 0, .int .u64 0, .int .u64 0] 24))
    clear hv
    go_enter Try.func19, Try.ntmps19
    go_wp2
    refine bodyPost_ret (v := .agg #[.int .u64 (N : Int), .int .u64 0, .int .u64 0, .int .u64 0, .int .u64 0, .int .u64 0]) (by simp [results, Try.results19, go_sem]) rfl ⟨by rw [HE.out], ?_⟩
    exact hb.out
  · obtain ⟨N, hN⟩ : ∃ N : Nat, -(n + 1) + 1 = (N : Int) := ⟨(-n).toNat, by omega⟩
    have hN2 : (-n).toNat = N := by omega
    obtain ⟨w1, hw1, a1, hb1, _⟩ := fp_lay_z 24 w
    have HL := Lib.hid (fpsmall_le (N := N) (by omega))
    have HE := Lib.hid (show v = pN - N by rw [hv, fpsmall_neg (by omega) h0, hN2])
    have HS := Lib.hid (fp_small (N := N) (by omega))
    have HW := Lib.hid hw1
    have A1 := Lib.hid a1
    have HB1 := Lib.hid hb1
    clear hw1 a1 hb1 hN2 hv
    go_enter Try.func19, Try.ntmps19
    go_wp2_with fail
    rw [HW.out]
    refine (r4P_v _).mono ?_
    rintro e Y1 ⟨rfl, hb2⟩
    have Z2 := Lib.hid (A1.out.keep hb2)
    have HB2 := Lib.hid (below_then HB1.out hb2)
    clear hb2
    go_wp2_with fail
    have HM := Lib.hid (r4minus_v pN N Y1 fpM_lt HL.out v HE.out)
    rw [HS.out] at HM
    refine HM.out.mono ?_
    rintro e Y2 ⟨rfl, hb3⟩
    clear HM
    have ZE := Z2.out.keep hb3
    have m0 := ZE.fpc0
    have m1 := ZE.fpc1
    have m2 := ZE.fpc2
    have m3 := ZE.fpc3
    have m4 := ZE.fpc4
    have m5 := ZE.fpc5
    have q0 := ZE.frozen 0
    have q1 := ZE.frozen 1
    have q2 := ZE.frozen 2
    have q3 := ZE.frozen 3
    have q4 := ZE.frozen 4
    have q5 := ZE.frozen 5
    have HBE := Lib.hid (below_then HB2.out hb3)
    clear hb3 ZE
    go_wp2
    refine bodyPost_ret (v := fpV v) (by simp [results, Try.results19, go_sem, m0, m1, m2, m3, m4, m5]) rfl ⟨rfl, ?_⟩
    exact fp_below HBE.out (by omega) _ _ _ _ _ _

set_option maxRecDepth 20000 in
set_option maxHeartbeats 4000000 in
theorem r4Inv_zero (a x : Nat) (w : World) (ha : a = 0) (hx : x = 0) :
    Calls Try.prog 28 #[fpV a, fpV x] w (Is (.bool true) w) := by
  have h0 : 0 < fpB := fp_ltB (by decide)
  have hq := fp_eq0 a (by omega) true (decide_eq_true ha).symm
  have hq2 : ∀ W, (Op.equalIn 10000 24 (.agg #[.int .u64 ((lb x 0 : Nat) : Int), .int .u64 ((lb x 1 : Nat) : Int), .int .u64 ((lb x 2 : Nat) : Int), .int .u64 ((lb x 3 : Nat) : Int), .int .u64 ((lb x 4 : Nat) : Int), .int .u64 ((lb x 5 : Nat) : Int)]) (.agg #[.int .u64 ((lb a 0 : Nat) : Int), .int .u64 ((lb a 1 : Nat) : Int), .int .u64 ((lb a 2 : Nat) : Int), .int .u64 ((lb a 3 : Nat) : Int), .int .u64 ((lb a 4 : Nat) : Int), .int .u64 ((lb a 5 : Nat) : Int)])).run Try.prog W = .ok true W := fun W => fp_eq x a W (by omega) (by omega) true (decide_eq_true (by omega)).symm
  obtain ⟨w2, hw2, a1, a2, hb0, hsz⟩ := fp_lay_vv 24 w a x
  have HW := Lib.hid hw2
  have A1 := Lib.hid a1
  have A2 := Lib.hid a2
  have HB0 := Lib.hid hb0
  clear hw2 a1 a2 hb0 hsz ha hx h0
  go_enter Try.func28, Try.ntmps28
  go_wp2
  go_ret
  exact ⟨rfl, by rw [HW.out]; exact HB0.out⟩

set_option maxRecDepth 20000 in
set_option maxHeartbeats 4000000 in
theorem r4Inv_true (a x : Nat) (w : World) (ha : a < pN) (hz : a ≠ 0) (hx : x < pN) (hm : a * x % pN = 1) :
    Calls Try.prog 28 #[fpV a, fpV x] w (Is (.bool true) w) := by
  have HAB := Lib.hid (Nat.lt_trans ha fpM_lt)
  have HXB := Lib.hid (Nat.lt_trans hx fpM_lt)
  have hq := fp_eq0 a HAB.out false (decide_eq_false hz).symm
  obtain ⟨o, ho⟩ : ∃ o, o = a * x % pN := ⟨_, rfl⟩
  have hq2 := fp_eq1 o (by rw [ho, hm]; exact fp_ltB (by decide)) true (decide_eq_true (by rw [ho, hm])).symm
  obtain ⟨w2, hw2, a1, a2, hb0, hsz⟩ := fp_lay_vv 24 w a x
  have HW := Lib.hid hw2
  have A1 := Lib.hid a1
  have A2 := Lib.hid a2
  have HB0 := Lib.hid hb0
  have HA := Lib.hid ha
  have HX := Lib.hid hx
  have HO := Lib.hid ho
  have HL := Lib.hid (show true = decide (x < pN) from (decide_eq_true hx).symm)
  clear hw2 a1 a2 hb0 hsz ha hx hz hm ho
  go_enter Try.func28, Try.ntmps28
  go_wp2_with fail
  rw [HW.out]
  clear HW
  have e0 : w2.drew.cell? ⟨w.heap.size, 0, none⟩ = _ := A1.out.fpc0
  have e1 : w2.drew.cell? ⟨w.heap.size, 1, none⟩ = _ := A1.out.fpc1
  have e2 : w2.drew.cell? ⟨w.heap.size, 2, none⟩ = _ := A1.out.fpc2
  have e3 : w2.drew.cell? ⟨w.heap.size, 3, none⟩ = _ := A1.out.fpc3
  have e4 : w2.drew.cell? ⟨w.heap.size, 4, none⟩ = _ := A1.out.fpc4
  have e5 : w2.drew.cell? ⟨w.heap.size, 5, none⟩ = _ := A1.out.fpc5
  have g0 : w2.drew.cell? ⟨w.heap.size + 1, 0, none⟩ = _ := A2.out.fpc0
  have g1 : w2.drew.cell? ⟨w.heap.size + 1, 1, none⟩ = _ := A2.out.fpc1
  have g2 : w2.drew.cell? ⟨w.heap.size + 1, 2, none⟩ = _ := A2.out.fpc2
  have g3 : w2.drew.cell? ⟨w.heap.size + 1, 3, none⟩ = _ := A2.out.fpc3
  have g4 : w2.drew.cell? ⟨w.heap.size + 1, 4, none⟩ = _ := A2.out.fpc4
  have g5 : w2.drew.cell? ⟨w.heap.size + 1, 5, none⟩ = _ := A2.out.fpc5
  go_region_with (first
    | (go_at_call 15; refine (r4P_v _).mono ?_; rintro e Y1 ⟨rfl, hb1⟩; have hb1' : Below w2.heap.size w2 Y1 := (Below.refl w2.heap.size w2).drew.trans hb1; have k0 := (A2.out.keep hb1').fpc0; have k1 := (A2.out.keep hb1').fpc1; have k2 := (A2.out.keep hb1').fpc2; have k3 := (A2.out.keep hb1').fpc3; have k4 := (A2.out.keep hb1').fpc4; have k5 := (A2.out.keep hb1').fpc5; have HB1 := Lib.hid hb1'; clear hb1 hb1')
    | (go_at_call 14; refine (r4Less_v x pN _ HXB.out fpM_lt true HL.out).mono ?_; rintro e Y2 ⟨rfl, hb2⟩; have hb2' : Below w2.heap.size w2 Y2 := below_then HB1.out hb2; have l0 := (A1.out.keep hb2').fpc0; have l1 := (A1.out.keep hb2').fpc1; have l2 := (A1.out.keep hb2').fpc2; have l3 := (A1.out.keep hb2').fpc3; have l4 := (A1.out.keep hb2').fpc4; have l5 := (A1.out.keep hb2').fpc5; have m0 := (A2.out.keep hb2').fpc0; have m1 := (A2.out.keep hb2').fpc1; have m2 := (A2.out.keep hb2').fpc2; have m3 := (A2.out.keep hb2').fpc3; have m4 := (A2.out.keep hb2').fpc4; have m5 := (A2.out.keep hb2').fpc5; have HB2 := Lib.hid hb2'; clear hb2 hb2')
    | (go_at_call 27; refine (r4Mul_v a x _ HA.out HX.out o HO.out).mono ?_; rintro e Y3 ⟨rfl, hb3⟩; have HB3 := Lib.hid (below_then HB0.out (below_then HB2.out hb3)); clear hb3))
  all_goals
    go_wp2
    go_ret
    exact ⟨rfl, HB3.out⟩
end Go.Proofs.Ythmdfjlmmfphiaa

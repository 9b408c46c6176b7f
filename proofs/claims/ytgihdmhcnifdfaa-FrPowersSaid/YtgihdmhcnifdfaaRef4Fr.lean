/- What is proved here: contracts of the reference's Neg, Sub, Small and Inv (layer 3). -/
import Derived.Test.YtgihdmhcnifdfaaRef3Fr
namespace Go.Proofs.Ytgihdmhcnifdfaa
open Go.RowKit

/-- An array held against nothing. -/
theorem fr_eq0 (a : Nat) (ha : a < frB) (r : Bool) (hr : r = decide (a = 0)) (W : World) : (Op.equalIn 10000 24 (.agg #[.int .u64 ((lb a 0 : Nat) : Int), .int .u64 ((lb a 1 : Nat) : Int), .int .u64 ((lb a 2 : Nat) : Int), .int .u64 ((lb a 3 : Nat) : Int)]) (.agg #[.int .u64 0, .int .u64 0, .int .u64 0, .int .u64 0])).run Try.prog W = .ok r W := by
  have := fr_eq a 0 W ha (fr_ltB (by decide)) r hr
  rwa [fr_lit0] at this

theorem fr_eq1 (a : Nat) (ha : a < frB) (r : Bool) (hr : r = decide (a = 1)) (W : World) : (Op.equalIn 10000 24 (.agg #[.int .u64 ((lb a 0 : Nat) : Int), .int .u64 ((lb a 1 : Nat) : Int), .int .u64 ((lb a 2 : Nat) : Int), .int .u64 ((lb a 3 : Nat) : Int)]) (.agg #[.int .u64 1, .int .u64 0, .int .u64 0, .int .u64 0])).run Try.prog W = .ok r W := by
  have := fr_eq a 1 W ha (fr_ltB (by decide)) r hr
  rwa [fr_lit1] at this

set_option maxRecDepth 20000 in
set_option maxHeartbeats 4000000 in
theorem r3Neg_v (a : Nat) (w : World) (ha : a < rN) (v : Nat) (hv : v = (rN - a) % rN) :
    Calls Try.prog 25 #[frV a] w (Is (frV v) w) := by
  obtain ⟨w2, hw2, a1, a2, hb0, hsz⟩ := fr_lay_vz 24 w a
  have HW := Lib.hid hw2
  have A1 := Lib.hid a1
  have A2 := Lib.hid a2
  have HB0 := Lib.hid hb0
  clear hw2 a1 a2 hb0 hsz
  have HAB := Lib.hid (Nat.lt_trans ha frM_lt)
  by_cases hz : a = 0
  · have hq := fr_eq0 a HAB.out true (decide_eq_true hz).symm
    have HE := Lib.hid (show v = a by rw [hv, hz, Nat.sub_zero, Nat.mod_self])
    clear hz hv ha
    obtain ⟨w2', h', _, _, hb', _⟩ := fr_lay_vv 24 w a a
    have HB' : Hid (Below w.heap.size w ((w.alloc (.cells #[.int .u64 ((lb a 0 : Nat) : Int), .int .u64 ((lb a 1 : Nat) : Int), .int .u64 ((lb a 2 : Nat) : Int), .int .u64 ((lb a 3 : Nat) : Int)] 24)).alloc (.cells #[.int .u64 ((lb a 0 : Nat) : Int), .int .u64 ((lb a 1 : Nat) : Int), .int .u64 ((lb a 2 : Nat) : Int), .int .u64 ((lb a 3 : Nat) : Int)] 24))) := (by rw [h']; exact hb' : Below _ _ _)
    clear h' hb' HW A1 A2 HB0
    go_enter Try.func25, Try.ntmps25
    go_wp2
    refine bodyPost_ret (v := frV a) (by simp [results, Try.results25, go_sem]) rfl ⟨by rw [HE.out], ?_⟩
    exact HB'.out
  · have hq := fr_eq0 a HAB.out false (decide_eq_false hz).symm
    have HE := Lib.hid (show v = rN - a by rw [hv, Nat.mod_eq_of_lt (by omega)])
    have HAM := Lib.hid (Nat.le_of_lt ha)
    clear hz hv ha
    go_enter Try.func25, Try.ntmps25
    go_wp2_with fail
    rw [HW.out]
    have a1 := A1.out
    have c0 : w2.drew.cell? ⟨w.heap.size, 0, none⟩ = _ := a1.frc0
    have c1 : w2.drew.cell? ⟨w.heap.size, 1, none⟩ = _ := a1.frc1
    have c2 : w2.drew.cell? ⟨w.heap.size, 2, none⟩ = _ := a1.frc2
    have c3 : w2.drew.cell? ⟨w.heap.size, 3, none⟩ = _ := a1.frc3
    clear HW hq a1
    go_region_with (first
      | (go_at_call 15; refine (r3R_v _).mono ?_; rintro e y3 ⟨rfl, hb3⟩; have hb3' : Below w2.heap.size w2 y3 := (Below.refl w2.heap.size w2).drew.trans hb3; have k0 := (A1.out.keep hb3').frc0; have k1 := (A1.out.keep hb3').frc1; have k2 := (A1.out.keep hb3').frc2; have k3 := (A1.out.keep hb3').frc3; have HB3 := Lib.hid hb3'; clear hb3 hb3')
      | (go_at_call 42; refine (r3minus_v rN a _ frM_lt HAM.out v HE.out).mono ?_; rintro e y4 ⟨rfl, hb4⟩; have hb4' := below_then HB3.out hb4; have p5 := A2.out.keep hb4'; have m0 := p5.frc0; have m1 := p5.frc1; have m2 := p5.frc2; have m3 := p5.frc3; have q0 := p5.frozen 0; have q1 := p5.frozen 1; have q2 := p5.frozen 2; have q3 := p5.frozen 3; have HB5 := Lib.hid (below_then HB0.out hb4'); clear hb4 hb4' p5))
    all_goals
      go_wp2
      refine bodyPost_ret (v := frV v) (by simp [results, Try.results25, go_sem, m0, m1, m2, m3]) rfl ⟨rfl, ?_⟩
      exact fr_below HB5.out (by omega) _ _ _ _

set_option maxRecDepth 20000 in
set_option maxHeartbeats 4000000 in
theorem r3Sub_v (a b : Nat) (w : World) (ha : a < rN) (hb : b < rN) (v : Nat) (hv : v = (a + (rN - b)) % rN) :
    Calls Try.prog 23 #[frV a, frV b] w (Is (frV v) w) := by
  obtain ⟨x, hx⟩ : ∃ x, x = (rN - b) % rN := ⟨_, rfl⟩
  have HXM := Lib.hid (show x < rN by rw [hx]; exact frM_mod _)
  have HV := Lib.hid (show v = (a + x) % rN by rw [hv, hx, Nat.add_mod_mod])
  have HX := Lib.hid hx
  have HA := Lib.hid ha
  have HB := Lib.hid hb
  obtain ⟨w3, hw3, a1, a2, a3, hb0, hsz⟩ := fr_lay_vvz 24 w a b
  have HW := Lib.hid hw3
  have A1 := Lib.hid a1
  have A2 := Lib.hid a2
  have A3 := Lib.hid a3
  have HB0 := Lib.hid hb0
  clear hx ha hb hw3 a1 a2 a3 hb0 hsz hv
  go_enter Try.func23, Try.ntmps23
  go_wp2_with fail
  rw [HW.out]
  clear HW
  have c0 : w3.drew.cell? ⟨w.heap.size, 0, none⟩ = _ := A1.out.frc0
  have c1 : w3.drew.cell? ⟨w.heap.size, 1, none⟩ = _ := A1.out.frc1
  have c2 : w3.drew.cell? ⟨w.heap.size, 2, none⟩ = _ := A1.out.frc2
  have c3 : w3.drew.cell? ⟨w.heap.size, 3, none⟩ = _ := A1.out.frc3
  have d0 : w3.drew.cell? ⟨w.heap.size + 1, 0, none⟩ = _ := A2.out.frc0
  have d1 : w3.drew.cell? ⟨w.heap.size + 1, 1, none⟩ = _ := A2.out.frc1
  have d2 : w3.drew.cell? ⟨w.heap.size + 1, 2, none⟩ = _ := A2.out.frc2
  have d3 : w3.drew.cell? ⟨w.heap.size + 1, 3, none⟩ = _ := A2.out.frc3
  go_region_with (first
    | (go_at_call 25; refine (r3Neg_v b _ HB.out x HX.out).mono ?_; rintro e Y1 ⟨rfl, hb1⟩; have hb1' : Below w3.heap.size w3 Y1 := (Below.refl w3.heap.size w3).drew.trans hb1; have k0 := (A1.out.keep hb1').frc0; have k1 := (A1.out.keep hb1').frc1; have k2 := (A1.out.keep hb1').frc2; have k3 := (A1.out.keep hb1').frc3; have HB1 := Lib.hid hb1'; clear hb1 hb1')
    | (go_at_call 21; refine (r3Add_v a x _ (frsum_lt HA.out HXM.out) v HV.out).mono ?_; rintro e Y2 ⟨rfl, hb2⟩; have hb2' := below_then HB1.out hb2; have a5 := A3.out.keep hb2'; have m0 := a5.frc0; have m1 := a5.frc1; have m2 := a5.frc2; have m3 := a5.frc3; have q0 := a5.frozen 0; have q1 := a5.frozen 1; have q2 := a5.frozen 2; have q3 := a5.frozen 3; have HB2 := Lib.hid (below_then HB0.out hb2'); clear hb2 hb2' a5))
  all_goals
    go_wp2
    refine bodyPost_ret (v := frV v) (by simp [results, Try.results23, go_sem, m0, m1, m2, m3]) rfl ⟨rfl, ?_⟩
    exact fr_below HB2.out (by omega) _ _ _ _

/-- What a small number leaves, modulo rN. -/
def frSmallOf (n : Int) : Nat := (n % (rN : Int)).toNat

theorem frsmall_pos {n : Int} (h0 : 0 ≤ n) (h1 : n ≤ 9223372036854775807) : frSmallOf n = n.toNat := by
  unfold frSmallOf
  have : n < (rN : Int) := Int.lt_of_le_of_lt h1 (by decide +kernel)
  rw [Int.emod_eq_of_lt h0 this]

theorem frsmall_neg {n : Int} (h0 : n < 0) (h1 : -9223372036854775808 ≤ n) : frSmallOf n = rN - (-n).toNat := by
  unfold frSmallOf
  have hr : (9223372036854775808 : Int) < (rN : Int) := by decide +kernel
  have e : n % (rN : Int) = n + rN := by
    rw [← Int.add_emod_right, Int.emod_eq_of_lt (by omega) (by omega)]
  rw [e]
  omega

theorem frsmall_le {N : Nat} (h : N ≤ 9223372036854775808) : N ≤ rN := Nat.le_trans h (by decide +kernel)

set_option maxRecDepth 20000 in
set_option maxHeartbeats 4000000 in
theorem r3Small_v (n : Int) (w : World) (h0 : -9223372036854775808 ≤ n) (h1 : n ≤ 9223372036854775807) (v : Nat) (hv : v = frSmallOf n) :
    Calls Try.prog 19 #[.int .i64 n] w (Is (frV v) w) := by
  by_cases h : 0 ≤ n
  · obtain ⟨N, rfl⟩ := Int.eq_ofNat_of_zero_le h
    have HE := Lib.hid (show frV v = .agg #[.int .u64 (N : Int), .int .u64 0, .int .u64 0, .int .u64 0] by rw [hv, frsmall_pos h h1, Int.toNat_natCast]; exact fr_small (by omega))
    have hb := Lib.hid (below_alloc w (.cells #[.int .u64 (N : Int), .int .u64 0, .int .u64 0, .int .u64 0] 24))
    clear hv
    go_enter Try.func19, Try.ntmps19
    go_wp2
    refine bodyPost_ret (v := .agg #[.int .u64 (N : Int), .int .u64 0, .int .u64 0, .int .u64 0]) (by simp [results, Try.results19, go_sem]) rfl ⟨by rw [HE.out], ?_⟩
    exact hb.out
  · obtain ⟨N, hN⟩ : ∃ N : Nat, -(n + 1) + 1 = (N : Int) := ⟨(-n).toNat, by omega⟩
    have hN2 : (-n).toNat = N := by omega
    obtain ⟨w1, hw1, a1, hb1, _⟩ := fr_lay_z 24 w
    have HL := Lib.hid (frsmall_le (N := N) (by omega))
    have HE := Lib.hid (show v = rN - N by rw [hv, frsmall_neg (by omega) h0, hN2])
    have HS := Lib.hid (fr_small (N := N) (by omega))
    have HW := Lib.hid hw1
    have A1 := Lib.hid a1
    have HB1 := Lib.hid hb1
    clear hw1 a1 hb1 hN2 hv
    go_enter Try.func19, Try.ntmps19
    go_wp2_with fail
    rw [HW.out]
    refine (r3R_v _).mono ?_
    rintro e Y1 ⟨rfl, hb2⟩
    have Z2 := Lib.hid (A1.out.keep hb2)
    have HB2 := Lib.hid (below_then HB1.out hb2)
    clear hb2
    go_wp2_with fail
    have HM := Lib.hid (r3minus_v rN N Y1 frM_lt HL.out v HE.out)
    rw [HS.out] at HM
    refine HM.out.mono ?_
    rintro e Y2 ⟨rfl, hb3⟩
    clear HM
    have ZE := Z2.out.keep hb3
    have m0 := ZE.frc0
    have m1 := ZE.frc1
    have m2 := ZE.frc2
    have m3 := ZE.frc3
    have q0 := ZE.frozen 0
    have q1 := ZE.frozen 1
    have q2 := ZE.frozen 2
    have q3 := ZE.frozen 3
    have HBE := Lib.hid (below_then HB2.out hb3)
    clear hb3 ZE
    go_wp2
    refine bodyPost_ret (v := frV v) (by simp [results, Try.results19, go_sem, m0, m1, m2, m3]) rfl ⟨rfl, ?_⟩
    exact fr_below HBE.out (by omega) _ _ _ _

set_option maxRecDepth 20000 in
set_option maxHeartbeats 4000000 in
theorem r3Inv_zero (a x : Nat) (w : World) (ha : a = 0) (hx : x = 0) :
    Calls Try.prog 28 #[frV a, frV x] w (Is (.bool true) w) := by
  have h0 : 0 < frB := fr_ltB (by decide)
  have hq := fr_eq0 a (by omega) true (decide_eq_true ha).symm
  have hq2 : ∀ W, (Op.equalIn 10000 24 (.agg #[.int .u64 ((lb x 0 : Nat) : Int), .int .u64 ((lb x 1 : Nat) : Int), .int .u64 ((lb x 2 : Nat) : Int), .int .u64 ((lb x 3 : Nat) : Int)]) (.agg #[.int .u64 ((lb a 0 : Nat) : Int), .int .u64 ((lb a 1 : Nat) : Int), .int .u64 ((lb a 2 : Nat) : Int), .int .u64 ((lb a 3 : Nat) : Int)])).run Try.prog W = .ok true W := fun W => fr_eq x a W (by omega) (by omega) true (decide_eq_true (by omega)).symm
  obtain ⟨w2, hw2, a1, a2, hb0, hsz⟩ := fr_lay_vv 24 w a x
  have HW := Lib.hid hw2
  have A1 := Lib.hid a1
  have A2 := Lib.hid a2
  have HB0 := Lib.hid hb0
  clear hw2 a1 a2 hb0 hsz ha hx h0
  go_enter Try.func28, Try.ntmps28
  go_wp2
  go_ret
  exact ⟨rfl, by rw [HW.out]; exact HB0.out⟩

set_option maxRecDepth 20000 in
set_option maxHeartbeats 4000000 in
theorem r3Inv_true (a x : Nat) (w : World) (ha : a < rN) (hz : a ≠ 0) (hx : x < rN) (hm : a * x % rN = 1) :
    Calls Try.prog 28 #[frV a, frV x] w (Is (.bool true) w) := by
  have HAB := Lib.hid (Nat.lt_trans ha frM_lt)
  have HXB := Lib.hid (Nat.lt_trans hx frM_lt)
  have hq := fr_eq0 a HAB.out false (decide_eq_false hz).symm
  obtain ⟨o, ho⟩ : ∃ o, o = a * x % rN := ⟨_, rfl⟩
  have hq2 := fr_eq1 o (by rw [ho, hm]; exact fr_ltB (by decide)) true (decide_eq_true (by rw [ho, hm])).symm
  obtain ⟨w2, hw2, a1, a2, hb0, hsz⟩ := fr_lay_vv 24 w a x
  have HW := Lib.hid hw2
  have A1 := Lib.hid a1
  have A2 := Lib.hid a2
  have HB0 := Lib.hid hb0
  have HA := Lib.hid ha
  have HX := Lib.hid hx
  have HO := Lib.hid ho
  have HL := Lib.hid (show true = decide (x < rN) from (decide_eq_true hx).symm)
  clear hw2 a1 a2 hb0 hsz ha hx hz hm ho
  go_enter Try.func28, Try.ntmps28
  go_wp2_with fail
  rw [HW.out]
  clear HW
  have e0 : w2.drew.cell? ⟨w.heap.size, 0, none⟩ = _ := A1.out.frc0
  have e1 : w2.drew.cell? ⟨w.heap.size, 1, none⟩ = _ := A1.out.frc1
  have e2 : w2.drew.cell? ⟨w.heap.size, 2, none⟩ = _ := A1.out.frc2
  have e3 : w2.drew.cell? ⟨w.heap.size, 3, none⟩ = _ := A1.out.frc3
  have g0 : w2.drew.cell? ⟨w.heap.size + 1, 0, none⟩ = _ := A2.out.frc0
  have g1 : w2.drew.cell? ⟨w.heap.size + 1, 1, none⟩ = _ := A2.out.frc1
  have g2 : w2.drew.cell? ⟨w.heap.size + 1, 2, none⟩ = _ := A2.out.frc2
  have g3 : w2.drew.cell? ⟨w.heap.size + 1, 3, none⟩ = _ := A2.out.frc3
  go_region_with (first
    | (go_at_call 15; refine (r3R_v _).mono ?_; rintro e Y1 ⟨rfl, hb1⟩; have hb1' : Below w2.heap.size w2 Y1 := (Below.refl w2.heap.size w2).drew.trans hb1; have k0 := (A2.out.keep hb1').frc0; have k1 := (A2.out.keep hb1').frc1; have k2 := (A2.out.keep hb1').frc2; have k3 := (A2.out.keep hb1').frc3; have HB1 := Lib.hid hb1'; clear hb1 hb1')
    | (go_at_call 14; refine (r3Less_v x rN _ HXB.out frM_lt true HL.out).mono ?_; rintro e Y2 ⟨rfl, hb2⟩; have hb2' : Below w2.heap.size w2 Y2 := below_then HB1.out hb2; have l0 := (A1.out.keep hb2').frc0; have l1 := (A1.out.keep hb2').frc1; have l2 := (A1.out.keep hb2').frc2; have l3 := (A1.out.keep hb2').frc3; have m0 := (A2.out.keep hb2').frc0; have m1 := (A2.out.keep hb2').frc1; have m2 := (A2.out.keep hb2').frc2; have m3 := (A2.out.keep hb2').frc3; have HB2 := Lib.hid hb2'; clear hb2 hb2')
    | (go_at_call 27; refine (r3Mul_v a x _ HA.out HX.out o HO.out).mono ?_; rintro e Y3 ⟨rfl, hb3⟩; have HB3 := Lib.hid (below_then HB0.out (below_then HB2.out hb3)); clear hb3))
  all_goals
    go_wp2
    go_ret
    exact ⟨rfl, HB3.out⟩
end Go.Proofs.Ytgihdmhcnifdfaa

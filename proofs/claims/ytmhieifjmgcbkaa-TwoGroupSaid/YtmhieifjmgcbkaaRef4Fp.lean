/- What is proved here: contracts of the reference's Neg, Sub, Small and Inv (layer 4). -/
import Derived.Test.YtmhieifjmgcbkaaRef3Fp
namespace Go.Proofs.Ytmhieifjmgcbkaa
open Go.RowKit

/-- An array held against nothing. -/
theorem fp_eq0 (a : Nat) (ha : a < fpB) (r : Bool) (hr : r = decide (a = 0)) (W : World) : (Op.equalIn 10000 24 (.agg #[.int .u64 ((lb a 0 : Nat) : Int), .int .u64 ((lb a 1 : Nat) : Int), .int .u64 ((lb a 2 : Nat) : Int), .int .u64 ((lb a 3 : Nat) : Int), .int .u64 ((lb a 4 : Nat) : Int), .int .u64 ((lb a 5 : Nat) : Int)]) (.agg #[.int .u64 0, .int .u64 0, .int .u64 0, .int .u64 0, .int .u64 0, .int .u64 0])).run Try.prog W = .ok r W := by
  have := fp_eq a 0 W ha (fp_ltB (by decide)) r hr
  rwa [fp_lit0] at this

set_option maxRecDepth 20000 in
set_option maxHeartbeats 4000000 in
theorem r4Neg_v (a : Nat) (w : World) (ha : a < pN) (v : Nat) (hv : v = (pN - a) % pN) :
    Calls Try.prog 42 #[fpV a] w (Is (fpV v) w) := by
  obtain ⟨w2, hw2, a1, a2, hb0, hsz⟩ := fp_lay_vz 24 w a
  have HW := Lib.hid hw2
  have A1 := Lib.hid a1
  have A2 := Lib.hid a2
  have HB0 := Lib.hid hb0
  clear hw2 a1 a2 hb0 hsz
  have HAB := Lib.hid (Nat.lt_trans ha fpM_lt)
  by_cases hz : a = 0
  · have hq := fp_eq0 a HAB.out true (decide_eq_true hz).symm
    have HE := Lib.hid (show v = a by rw [hv, hz, Nat.sub_zero, Nat.mod_self])
    clear hz hv ha
    obtain ⟨w2', h', _, _, hb', _⟩ := fp_lay_vv 24 w a a
    have HB' : Hid (Below w.heap.size w ((w.alloc (.cells #[.int .u64 ((lb a 0 : Nat) : Int), .int .u64 ((lb a 1 : Nat) : Int), .int .u64 ((lb a 2 : Nat) : Int), .int .u64 ((lb a 3 : Nat) : Int), .int .u64 ((lb a 4 : Nat) : Int), .int .u64 ((lb a 5 : Nat) : Int)] 24)).alloc (.cells #[.int .u64 ((lb a 0 : Nat) : Int), .int .u64 ((lb a 1 : Nat) : Int), .int .u64 ((lb a 2 : Nat) : Int), .int .u64 ((lb a 3 : Nat) : Int), .int .u64 ((lb a 4 : Nat) : Int), .int .u64 ((lb a 5 : Nat) : Int)] 24))) := (by rw [h']; exact hb' : Below _ _ _)
    clear h' hb' HW A1 A2 HB0
    go_enter Try.func42, Try.ntmps42
    go_wp2
    refine bodyPost_ret (v := fpV a) (by simp [results, Try.results42, go_sem]) rfl ⟨by rw [HE.out], ?_⟩
    exact HB'.out
  · have hq := fp_eq0 a HAB.out false (decide_eq_false hz).symm
    have HE := Lib.hid (show v = pN - a by rw [hv, Nat.mod_eq_of_lt (by omega)])
    have HAM := Lib.hid (Nat.le_of_lt ha)
    clear hz hv ha
    go_enter Try.func42, Try.ntmps42
    go_wp2_with fail
    rw [HW.out]
    have a1 := A1.out
    have c0 : w2.drew.cell? ⟨w.heap.size, 0, none⟩ = _ := a1.fpc0
    have c1 : w2.drew.cell? ⟨w.heap.size, 1, none⟩ = _ := a1.fpc1
    have c2 : w2.drew.cell? ⟨w.heap.size, 2, none⟩ = _ := a1.fpc2
    have c3 : w2.drew.cell? ⟨w.heap.size, 3, none⟩ = _ := a1.fpc3
    have c4 : w2.drew.cell? ⟨w.heap.size, 4, none⟩ = _ := a1.fpc4
    have c5 : w2.drew.cell? ⟨w.heap.size, 5, none⟩ = _ := a1.fpc5
    clear HW hq a1
    go_region_with (first
      | (go_at_call 39; refine (r4P_v _).mono ?_; rintro e y3 ⟨rfl, hb3⟩; have hb3' : Below w2.heap.size w2 y3 := (Below.refl w2.heap.size w2).drew.trans hb3; have k0 := (A1.out.keep hb3').fpc0; have k1 := (A1.out.keep hb3').fpc1; have k2 := (A1.out.keep hb3').fpc2; have k3 := (A1.out.keep hb3').fpc3; have k4 := (A1.out.keep hb3').fpc4; have k5 := (A1.out.keep hb3').fpc5; have HB3 := Lib.hid hb3'; clear hb3 hb3')
      | (go_at_call 40; refine (r4minus_v pN a _ fpM_lt HAM.out v HE.out).mono ?_; rintro e y4 ⟨rfl, hb4⟩; have hb4' := below_then HB3.out hb4; have p5 := A2.out.keep hb4'; have m0 := p5.fpc0; have m1 := p5.fpc1; have m2 := p5.fpc2; have m3 := p5.fpc3; have m4 := p5.fpc4; have m5 := p5.fpc5; have q0 := p5.frozen 0; have q1 := p5.frozen 1; have q2 := p5.frozen 2; have q3 := p5.frozen 3; have q4 := p5.frozen 4; have q5 := p5.frozen 5; have HB5 := Lib.hid (below_then HB0.out hb4'); clear hb4 hb4' p5))
    all_goals
      go_wp2
      refine bodyPost_ret (v := fpV v) (by simp [results, Try.results42, go_sem, m0, m1, m2, m3, m4, m5]) rfl ⟨rfl, ?_⟩
      exact fp_below HB5.out (by omega) _ _ _ _ _ _

set_option maxRecDepth 20000 in
set_option maxHeartbeats 4000000 in
theorem r4Sub_v (a b : Nat) (w : World) (ha : a < pN) (hb : b < pN) (v : Nat) (hv : v = (a + (pN - b)) % pN) :
    Calls Try.prog 25 #[fpV a, fpV b] w (Is (fpV v) w) := by
  obtain ⟨x, hx⟩ : ∃ x, x = (pN - b) % pN := ⟨_, rfl⟩
  have HXM := Lib.hid (show x < pN by rw [hx]; exact fpM_mod _)
  have HV := Lib.hid (show v = (a + x) % pN by rw [hv, hx, Nat.add_mod_mod])
  have HX := Lib.hid hx
  have HA := Lib.hid ha
  have HB := Lib.hid hb
  obtain ⟨w3, hw3, a1, a2, a3, hb0, hsz⟩ := fp_lay_vvz 24 w a b
  have HW := Lib.hid hw3
  have A1 := Lib.hid a1
  have A2 := Lib.hid a2
  have A3 := Lib.hid a3
  have HB0 := Lib.hid hb0
  clear hx ha hb hw3 a1 a2 a3 hb0 hsz hv
  go_enter Try.func25, Try.ntmps25
  go_wp2_with fail
  rw [HW.out]
  clear HW
  have c0 : w3.drew.cell? ⟨w.heap.size, 0, none⟩ = _ := A1.out.fpc0
  have c1 : w3.drew.cell? ⟨w.heap.size, 1, none⟩ = _ := A1.out.fpc1
  have c2 : w3.drew.cell? ⟨w.heap.size, 2, none⟩ = _ := A1.out.fpc2
  have c3 : w3.drew.cell? ⟨w.heap.size, 3, none⟩ = _ := A1.out.fpc3
  have c4 : w3.drew.cell? ⟨w.heap.size, 4, none⟩ = _ := A1.out.fpc4
  have c5 : w3.drew.cell? ⟨w.heap.size, 5, none⟩ = _ := A1.out.fpc5
  have d0 : w3.drew.cell? ⟨w.heap.size + 1, 0, none⟩ = _ := A2.out.fpc0
  have d1 : w3.drew.cell? ⟨w.heap.size + 1, 1, none⟩ = _ := A2.out.fpc1
  have d2 : w3.drew.cell? ⟨w.heap.size + 1, 2, none⟩ = _ := A2.out.fpc2
  have d3 : w3.drew.cell? ⟨w.heap.size + 1, 3, none⟩ = _ := A2.out.fpc3
  have d4 : w3.drew.cell? ⟨w.heap.size + 1, 4, none⟩ = _ := A2.out.fpc4
  have d5 : w3.drew.cell? ⟨w.heap.size + 1, 5, none⟩ = _ := A2.out.fpc5
  go_region_with (first
    | (go_at_call 42; refine (r4Neg_v b _ HB.out x HX.out).mono ?_; rintro e Y1 ⟨rfl, hb1⟩; have hb1' : Below w3.heap.size w3 Y1 := (Below.refl w3.heap.size w3).drew.trans hb1; have k0 := (A1.out.keep hb1').fpc0; have k1 := (A1.out.keep hb1').fpc1; have k2 := (A1.out.keep hb1').fpc2; have k3 := (A1.out.keep hb1').fpc3; have k4 := (A1.out.keep hb1').fpc4; have k5 := (A1.out.keep hb1').fpc5; have HB1 := Lib.hid hb1'; clear hb1 hb1')
    | (go_at_call 26; refine (r4Add_v a x _ (fpsum_lt HA.out HXM.out) v HV.out).mono ?_; rintro e Y2 ⟨rfl, hb2⟩; have hb2' := below_then HB1.out hb2; have a5 := A3.out.keep hb2'; have m0 := a5.fpc0; have m1 := a5.fpc1; have m2 := a5.fpc2; have m3 := a5.fpc3; have m4 := a5.fpc4; have m5 := a5.fpc5; have q0 := a5.frozen 0; have q1 := a5.frozen 1; have q2 := a5.frozen 2; have q3 := a5.frozen 3; have q4 := a5.frozen 4; have q5 := a5.frozen 5; have HB2 := Lib.hid (below_then HB0.out hb2'); clear hb2 hb2' a5))
  all_goals
    go_wp2
    refine bodyPost_ret (v := fpV v) (by simp [results, Try.results25, go_sem, m0, m1, m2, m3, m4, m5]) rfl ⟨rfl, ?_⟩
    exact fp_below HB2.out (by omega) _ _ _ _ _ _
end Go.Proofs.Ytmhieifjmgcbkaa

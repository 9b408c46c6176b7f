/- What is proved here: the law package's alive (layer 4); the laws FpRights and FpPows. -/
import Derived.Test.YthmdfjlmmfphiaaFn6Fp
import Derived.Test.YthmdfjlmmfphiaaFn5Fp
namespace Go.Proofs.Ythmdfjlmmfphiaa
open Go.RowKit

theorem fp_refl (v : Nat) (W : World) : (Op.equalIn 10000 24 (.agg #[.int .u64 ((lb v 0 : Nat) : Int), .int .u64 ((lb v 1 : Nat) : Int), .int .u64 ((lb v 2 : Nat) : Int), .int .u64 ((lb v 3 : Nat) : Int), .int .u64 ((lb v 4 : Nat) : Int), .int .u64 ((lb v 5 : Nat) : Int)]) (.agg #[.int .u64 ((lb v 0 : Nat) : Int), .int .u64 ((lb v 1 : Nat) : Int), .int .u64 ((lb v 2 : Nat) : Int), .int .u64 ((lb v 3 : Nat) : Int), .int .u64 ((lb v 4 : Nat) : Int), .int .u64 ((lb v 5 : Nat) : Int)])).run Try.prog W = .ok true W := by
  obtain ⟨i, hi, _, _, _⟩ := info_parts Try.infoU
  rw [show (10000 : Nat) = 9999 + 1 from rfl, run_equalIn_array W 9999 _ _ Try.underlying24 hi, show List.range 6 = [0, 1, 2, 3, 4, 5] from rfl, fp_step _ _ _ _ _ (by decide), fp_step _ _ _ _ _ (by decide), fp_step _ _ _ _ _ (by decide), fp_step _ _ _ _ _ (by decide), fp_step _ _ _ _ _ (by decide), fp_step _ _ _ _ _ (by decide)]
  simp [Op.eqItems, go_sem]

theorem fp_lit2 : fpV 2 = .agg #[.int .u64 2, .int .u64 0, .int .u64 0, .int .u64 0, .int .u64 0, .int .u64 0] := fp_small (by decide)

set_option maxRecDepth 20000 in
set_option maxHeartbeats 4000000 in
theorem fpalive_v (w : World) : Calls Try.prog 12 #[] w (Is (.bool true) w) := by
  have HA := Lib.hid (fpAdd_v 1 1 w (fp_ltB (by decide)) (fp_ltB (by decide)) 2 (by decide +kernel))
  rw [fp_lit1, fp_lit2] at HA
  have hq := fp_refl 2
  rw [show Value.agg #[.int .u64 ((lb 2 0 : Nat) : Int), .int .u64 ((lb 2 1 : Nat) : Int), .int .u64 ((lb 2 2 : Nat) : Int), .int .u64 ((lb 2 3 : Nat) : Int), .int .u64 ((lb 2 4 : Nat) : Int), .int .u64 ((lb 2 5 : Nat) : Int)] = .agg #[.int .u64 2, .int .u64 0, .int .u64 0, .int .u64 0, .int .u64 0, .int .u64 0] from fp_lit2] at hq
  go_enter Try.func12, Try.ntmps12
  go_wp2_with fail
  refine HA.out.mono ?_
  rintro e w2 ⟨rfl, hb2⟩
  have HB2 := Lib.hid hb2
  clear hb2 HA
  go_wp2
  go_ret
  exact ⟨rfl, HB2.out⟩

set_option maxRecDepth 20000 in
set_option maxHeartbeats 4000000 in
theorem fpRights_v (a : Nat) (k : Int) (w : World) (ha : a < fpB) (h0 : -9223372036854775808 ≤ k) (h1 : k ≤ 9223372036854775807) :
    Calls Try.prog 3 #[fpV a, .int .i64 k] w (Is (.bool true) w) := by
  obtain ⟨w1, hw1, a1, hb0, hsz⟩ := fp_lay_v 24 w a
  have HW := Lib.hid hw1
  have A1 := Lib.hid a1
  have HB0 := Lib.hid hb0
  have HA := Lib.hid ha
  obtain ⟨r, hr⟩ : ∃ r, r = decide (a < pN) := ⟨_, rfl⟩
  have HR := Lib.hid hr
  obtain ⟨v, hv⟩ : ∃ v, v = a % pN := ⟨_, rfl⟩
  have HV := Lib.hid hv
  obtain ⟨u, hu⟩ : ∃ u, u = fpSmallOf k := ⟨_, rfl⟩
  have HU := Lib.hid hu
  have hq1 := fp_refl v
  have hq2 := fp_refl u
  clear hw1 a1 hb0 hsz ha hr hv hu
  go_enter Try.func3, Try.ntmps3
  go_wp2_with fail
  rw [HW.out]
  clear HW
  have keep : ∀ X Y : World, (X.cell? ⟨w.heap.size, 0, none⟩ = some (.int .u64 ((lb a 0 : Nat) : Int)) ∧ X.cell? ⟨w.heap.size, 1, none⟩ = some (.int .u64 ((lb a 1 : Nat) : Int)) ∧ X.cell? ⟨w.heap.size, 2, none⟩ = some (.int .u64 ((lb a 2 : Nat) : Int)) ∧ X.cell? ⟨w.heap.size, 3, none⟩ = some (.int .u64 ((lb a 3 : Nat) : Int)) ∧ X.cell? ⟨w.heap.size, 4, none⟩ = some (.int .u64 ((lb a 4 : Nat) : Int)) ∧ X.cell? ⟨w.heap.size, 5, none⟩ = some (.int .u64 ((lb a 5 : Nat) : Int)) ∧ Below w1.heap.size w1 X) → Below X.heap.size X Y → (Y.cell? ⟨w.heap.size, 0, none⟩ = some (.int .u64 ((lb a 0 : Nat) : Int)) ∧ Y.cell? ⟨w.heap.size, 1, none⟩ = some (.int .u64 ((lb a 1 : Nat) : Int)) ∧ Y.cell? ⟨w.heap.size, 2, none⟩ = some (.int .u64 ((lb a 2 : Nat) : Int)) ∧ Y.cell? ⟨w.heap.size, 3, none⟩ = some (.int .u64 ((lb a 3 : Nat) : Int)) ∧ Y.cell? ⟨w.heap.size, 4, none⟩ = some (.int .u64 ((lb a 4 : Nat) : Int)) ∧ Y.cell? ⟨w.heap.size, 5, none⟩ = some (.int .u64 ((lb a 5 : Nat) : Int)) ∧ Below w1.heap.size w1 Y) := fun X Y h k => by
    have hb := h.2.2.2.2.2.2.trans (k.mono h.2.2.2.2.2.2.size)
    have qa := A1.out.keep hb
    exact ⟨qa.fpc0, qa.fpc1, qa.fpc2, qa.fpc3, qa.fpc4, qa.fpc5, hb⟩
  have ca0 := A1.out.fpc0
  have ca1 := A1.out.fpc1
  have ca2 := A1.out.fpc2
  have ca3 := A1.out.fpc3
  have ca4 := A1.out.fpc4
  have ca5 := A1.out.fpc5
  go_region_held3 (fun w' => w'.cell? ⟨w.heap.size, 0, none⟩ = some (.int .u64 ((lb a 0 : Nat) : Int)) ∧ w'.cell? ⟨w.heap.size, 1, none⟩ = some (.int .u64 ((lb a 1 : Nat) : Int)) ∧ w'.cell? ⟨w.heap.size, 2, none⟩ = some (.int .u64 ((lb a 2 : Nat) : Int)) ∧ w'.cell? ⟨w.heap.size, 3, none⟩ = some (.int .u64 ((lb a 3 : Nat) : Int)) ∧ w'.cell? ⟨w.heap.size, 4, none⟩ = some (.int .u64 ((lb a 4 : Nat) : Int)) ∧ w'.cell? ⟨w.heap.size, 5, none⟩ = some (.int .u64 ((lb a 5 : Nat) : Int)) ∧ Below w1.heap.size w1 w')
    (first | exact ⟨ca0, ca1, ca2, ca3, ca4, ca5, (Below.refl _ _).drew⟩ | exact hS8 | exact hS7 | exact hS6 | exact hS5 | exact hS4 | exact hS3 | exact hS2 | exact hS1)
    (first
      | (go_at_call 12; ((with_reducible refine (fpalive_v _).mono ?_); rintro e y1 ⟨rfl, hb1⟩; have hS1 := keep _ _ ‹_› hb1; clear hb1))
      | (go_at_call 13; ((with_reducible refine (fpRight_v a _ HA.out r HR.out).mono ?_); rintro e y2 ⟨rfl, hb2⟩; have hS2 := keep _ _ ‹_› hb2; clear hb2))
      | (go_at_call 15; ((with_reducible refine (r4P_v _).mono ?_); rintro e y3 ⟨rfl, hb3⟩; have hS3 := keep _ _ ‹_› hb3; clear hb3))
      | (go_at_call 14; ((with_reducible refine (r4Less_v a pN _ HA.out fpM_lt r HR.out).mono ?_); rintro e y4 ⟨rfl, hb4⟩; have hS4 := keep _ _ ‹_› hb4; clear hb4))
      | (go_at_call 16; ((with_reducible refine (fpClean_v a _ HA.out v HV.out).mono ?_); rintro e y5 ⟨rfl, hb5⟩; have hS5 := keep _ _ ‹_› hb5; clear hb5))
      | (go_at_call 17; ((with_reducible refine (r4Clean_v a _ HA.out v HV.out).mono ?_); rintro e y6 ⟨rfl, hb6⟩; have hS6 := keep _ _ ‹_› hb6; clear hb6))
      | (go_at_call 18; ((with_reducible refine (fpSmall_v k _ h0 h1 u HU.out).mono ?_); rintro e y7 ⟨rfl, hb7⟩; have hS7 := keep _ _ ‹_› hb7; clear hb7))
      | (go_at_call 19; ((with_reducible refine (r4Small_v k _ h0 h1 u HU.out).mono ?_); rintro e y8 ⟨rfl, hb8⟩; have hS8 := keep _ _ ‹_› hb8; clear hb8)))
  have HBE := Lib.hid (below_then HB0.out hS8.2.2.2.2.2.2)
  clear keep hS1 hS2 hS3 hS4 hS5 hS6 hS7 hS8
  go_wp2
  go_ret
  exact ⟨rfl, HBE.out⟩

set_option maxRecDepth 20000 in
set_option maxHeartbeats 4000000 in
theorem fpPows_v (a b : Nat) (w : World) (ha : a < fpB) (hb : b < fpB) :
    Calls Try.prog 6 #[fpV a, fpV b] w (Is (.bool true) w) := by
  obtain ⟨w2, hw2, a1, a2, hb0, hsz⟩ := fp_lay_vv 24 w a b
  have HW := Lib.hid hw2
  have A1 := Lib.hid a1
  have A2 := Lib.hid a2
  have HB0 := Lib.hid hb0
  have HA := Lib.hid ha
  have HB := Lib.hid hb
  obtain ⟨x, hx⟩ : ∃ x, x = a % pN := ⟨_, rfl⟩
  have HX := Lib.hid hx
  have HXM := Lib.hid (show x < pN by rw [hx]; exact fpM_mod a)
  obtain ⟨v, hv⟩ : ∃ v, v = a ^ b % pN := ⟨_, rfl⟩
  have HV := Lib.hid hv
  have HV2 := Lib.hid (show v = x ^ b % pN by rw [hv, hx, ← Nat.pow_mod])
  have hq1 := fp_refl v
  clear hw2 a1 a2 hb0 hsz ha hb hx hv
  go_enter Try.func6, Try.ntmps6
  go_wp2_with fail
  rw [HW.out]
  clear HW
  have keep : ∀ X Y : World, (X.cell? ⟨w.heap.size, 0, none⟩ = some (.int .u64 ((lb a 0 : Nat) : Int)) ∧ X.cell? ⟨w.heap.size, 1, none⟩ = some (.int .u64 ((lb a 1 : Nat) : Int)) ∧ X.cell? ⟨w.heap.size, 2, none⟩ = some (.int .u64 ((lb a 2 : Nat) : Int)) ∧ X.cell? ⟨w.heap.size, 3, none⟩ = some (.int .u64 ((lb a 3 : Nat) : Int)) ∧ X.cell? ⟨w.heap.size, 4, none⟩ = some (.int .u64 ((lb a 4 : Nat) : Int)) ∧ X.cell? ⟨w.heap.size, 5, none⟩ = some (.int .u64 ((lb a 5 : Nat) : Int)) ∧ X.cell? ⟨w.heap.size + 1, 0, none⟩ = some (.int .u64 ((lb b 0 : Nat) : Int)) ∧ X.cell? ⟨w.heap.size + 1, 1, none⟩ = some (.int .u64 ((lb b 1 : Nat) : Int)) ∧ X.cell? ⟨w.heap.size + 1, 2, none⟩ = some (.int .u64 ((lb b 2 : Nat) : Int)) ∧ X.cell? ⟨w.heap.size + 1, 3, none⟩ = some (.int .u64 ((lb b 3 : Nat) : Int)) ∧ X.cell? ⟨w.heap.size + 1, 4, none⟩ = some (.int .u64 ((lb b 4 : Nat) : Int)) ∧ X.cell? ⟨w.heap.size + 1, 5, none⟩ = some (.int .u64 ((lb b 5 : Nat) : Int)) ∧ Below w2.heap.size w2 X) → Below X.heap.size X Y → (Y.cell? ⟨w.heap.size, 0, none⟩ = some (.int .u64 ((lb a 0 : Nat) : Int)) ∧ Y.cell? ⟨w.heap.size, 1, none⟩ = some (.int .u64 ((lb a 1 : Nat) : Int)) ∧ Y.cell? ⟨w.heap.size, 2, none⟩ = some (.int .u64 ((lb a 2 : Nat) : Int)) ∧ Y.cell? ⟨w.heap.size, 3, none⟩ = some (.int .u64 ((lb a 3 : Nat) : Int)) ∧ Y.cell? ⟨w.heap.size, 4, none⟩ = some (.int .u64 ((lb a 4 : Nat) : Int)) ∧ Y.cell? ⟨w.heap.size, 5, none⟩ = some (.int .u64 ((lb a 5 : Nat) : Int)) ∧ Y.cell? ⟨w.heap.size + 1, 0, none⟩ = some (.int .u64 ((lb b 0 : Nat) : Int)) ∧ Y.cell? ⟨w.heap.size + 1, 1, none⟩ = some (.int .u64 ((lb b 1 : Nat) : Int)) ∧ Y.cell? ⟨w.heap.size + 1, 2, none⟩ = some (.int .u64 ((lb b 2 : Nat) : Int)) ∧ Y.cell? ⟨w.heap.size + 1, 3, none⟩ = some (.int .u64 ((lb b 3 : Nat) : Int)) ∧ Y.cell? ⟨w.heap.size + 1, 4, none⟩ = some (.int .u64 ((lb b 4 : Nat) : Int)) ∧ Y.cell? ⟨w.heap.size + 1, 5, none⟩ = some (.int .u64 ((lb b 5 : Nat) : Int)) ∧ Below w2.heap.size w2 Y) := fun X Y h k => by
    have hb := h.2.2.2.2.2.2.2.2.2.2.2.2.trans (k.mono h.2.2.2.2.2.2.2.2.2.2.2.2.size)
    have qa := A1.out.keep hb
    have qb := A2.out.keep hb
    exact ⟨qa.fpc0, qa.fpc1, qa.fpc2, qa.fpc3, qa.fpc4, qa.fpc5, qb.fpc0, qb.fpc1, qb.fpc2, qb.fpc3, qb.fpc4, qb.fpc5, hb⟩
  have ca0 := A1.out.fpc0
  have ca1 := A1.out.fpc1
  have ca2 := A1.out.fpc2
  have ca3 := A1.out.fpc3
  have ca4 := A1.out.fpc4
  have ca5 := A1.out.fpc5
  have cb0 := A2.out.fpc0
  have cb1 := A2.out.fpc1
  have cb2 := A2.out.fpc2
  have cb3 := A2.out.fpc3
  have cb4 := A2.out.fpc4
  have cb5 := A2.out.fpc5
  go_region_held3 (fun w' => w'.cell? ⟨w.heap.size, 0, none⟩ = some (.int .u64 ((lb a 0 : Nat) : Int)) ∧ w'.cell? ⟨w.heap.size, 1, none⟩ = some (.int .u64 ((lb a 1 : Nat) : Int)) ∧ w'.cell? ⟨w.heap.size, 2, none⟩ = some (.int .u64 ((lb a 2 : Nat) : Int)) ∧ w'.cell? ⟨w.heap.size, 3, none⟩ = some (.int .u64 ((lb a 3 : Nat) : Int)) ∧ w'.cell? ⟨w.heap.size, 4, none⟩ = some (.int .u64 ((lb a 4 : Nat) : Int)) ∧ w'.cell? ⟨w.heap.size, 5, none⟩ = some (.int .u64 ((lb a 5 : Nat) : Int)) ∧ w'.cell? ⟨w.heap.size + 1, 0, none⟩ = some (.int .u64 ((lb b 0 : Nat) : Int)) ∧ w'.cell? ⟨w.heap.size + 1, 1, none⟩ = some (.int .u64 ((lb b 1 : Nat) : Int)) ∧ w'.cell? ⟨w.heap.size + 1, 2, none⟩ = some (.int .u64 ((lb b 2 : Nat) : Int)) ∧ w'.cell? ⟨w.heap.size + 1, 3, none⟩ = some (.int .u64 ((lb b 3 : Nat) : Int)) ∧ w'.cell? ⟨w.heap.size + 1, 4, none⟩ = some (.int .u64 ((lb b 4 : Nat) : Int)) ∧ w'.cell? ⟨w.heap.size + 1, 5, none⟩ = some (.int .u64 ((lb b 5 : Nat) : Int)) ∧ Below w2.heap.size w2 w')
    (first | exact ⟨ca0, ca1, ca2, ca3, ca4, ca5, cb0, cb1, cb2, cb3, cb4, cb5, (Below.refl _ _).drew⟩ | exact hS4 | exact hS3 | exact hS2 | exact hS1)
    (first
      | (go_at_call 12; ((with_reducible refine (fpalive_v _).mono ?_); rintro e y1 ⟨rfl, hb1⟩; have hS1 := keep _ _ ‹_› hb1; clear hb1))
      | (go_at_call 30; ((with_reducible refine (fpPow_v a b _ HA.out HB.out v HV.out).mono ?_); rintro e y2 ⟨rfl, hb2⟩; have hS2 := keep _ _ ‹_› hb2; clear hb2))
      | (go_at_call 17; ((with_reducible refine (r4Clean_v a _ HA.out x HX.out).mono ?_); rintro e y3 ⟨rfl, hb3⟩; have hS3 := keep _ _ ‹_› hb3; clear hb3))
      | (go_at_call 31; ((with_reducible refine (r4Pow_v x b _ HXM.out HB.out v HV2.out).mono ?_); rintro e y4 ⟨rfl, hb4⟩; have hS4 := keep _ _ ‹_› hb4; clear hb4)))
  have HBE := Lib.hid (below_then HB0.out hS4.2.2.2.2.2.2.2.2.2.2.2.2)
  clear keep hS1 hS2 hS3 hS4
  go_wp2
  go_ret
  exact ⟨rfl, HBE.out⟩
end Go.Proofs.Ythmdfjlmmfphiaa

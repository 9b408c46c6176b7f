/- What is proved here: the law package's alive (layer 3); the laws FrRights and FrPows. -/
import Derived.Test.YtgihdmhcnifdfaaFn6Fr
import Derived.Test.YtgihdmhcnifdfaaFn5Fr
namespace Go.Proofs.Ytgihdmhcnifdfaa
open Go.RowKit

theorem fr_refl (v : Nat) (W : World) : (Op.equalIn 10000 24 (.agg #[.int .u64 ((lb v 0 : Nat) : Int), .int .u64 ((lb v 1 : Nat) : Int), .int .u64 ((lb v 2 : Nat) : Int), .int .u64 ((lb v 3 : Nat) : Int)]) (.agg #[.int .u64 ((lb v 0 : Nat) : Int), .int .u64 ((lb v 1 : Nat) : Int), .int .u64 ((lb v 2 : Nat) : Int), .int .u64 ((lb v 3 : Nat) : Int)])).run Try.prog W = .ok true W := by
  obtain ⟨i, hi, _, _, _⟩ := info_parts Try.infoU
  rw [show (10000 : Nat) = 9999 + 1 from rfl, run_equalIn_array W 9999 _ _ Try.underlying24 hi, show List.range 4 = [0, 1, 2, 3] from rfl, fr_step _ _ _ _ _ (by decide), fr_step _ _ _ _ _ (by decide), fr_step _ _ _ _ _ (by decide), fr_step _ _ _ _ _ (by decide)]
  simp [Op.eqItems, go_sem]

theorem fr_lit2 : frV 2 = .agg #[.int .u64 2, .int .u64 0, .int .u64 0, .int .u64 0] := fr_small (by decide)

set_option maxRecDepth 20000 in
set_option maxHeartbeats 4000000 in
theorem fralive_v (w : World) : Calls Try.prog 12 #[] w (Is (.bool true) w) := by
  have HA := Lib.hid (frAdd_v 1 1 w (fr_ltB (by decide)) (fr_ltB (by decide)) 2 (by decide +kernel))
  rw [fr_lit1, fr_lit2] at HA
  have hq := fr_refl 2
  rw [show Value.agg #[.int .u64 ((lb 2 0 : Nat) : Int), .int .u64 ((lb 2 1 : Nat) : Int), .int .u64 ((lb 2 2 : Nat) : Int), .int .u64 ((lb 2 3 : Nat) : Int)] = .agg #[.int .u64 2, .int .u64 0, .int .u64 0, .int .u64 0] from fr_lit2] at hq
  go_enter Try.func12, Try.ntmps12
  go_wp2_with fail
  refine HA.out.mono ?_
  rintro e w2 ⟨rfl, hb2⟩
  have HB2 := Lib.hid hb2
  clear hb2 HA
  go_wp2
  go_ret
  exact ⟨rfl, HB2.out⟩

set_option maxRecDepth 20000 in
set_option maxHeartbeats 4000000 in
theorem frRights_v (a : Nat) (k : Int) (w : World) (ha : a < frB) (h0 : -9223372036854775808 ≤ k) (h1 : k ≤ 9223372036854775807) :
    Calls Try.prog 3 #[frV a, .int .i64 k] w (Is (.bool true) w) := by
  obtain ⟨w1, hw1, a1, hb0, hsz⟩ := fr_lay_v 24 w a
  have HW := Lib.hid hw1
  have A1 := Lib.hid a1
  have HB0 := Lib.hid hb0
  have HA := Lib.hid ha
  obtain ⟨r, hr⟩ : ∃ r, r = decide (a < rN) := ⟨_, rfl⟩
  have HR := Lib.hid hr
  obtain ⟨v, hv⟩ : ∃ v, v = a % rN := ⟨_, rfl⟩
  have HV := Lib.hid hv
  obtain ⟨u, hu⟩ : ∃ u, u = frSmallOf k := ⟨_, rfl⟩
  have HU := Lib.hid hu
  have hq1 := fr_refl v
  have hq2 := fr_refl u
  clear hw1 a1 hb0 hsz ha hr hv hu
  go_enter Try.func3, Try.ntmps3
  go_wp2_with fail
  rw [HW.out]
  clear HW
  have keep : ∀ X Y : World, (X.cell? ⟨w.heap.size, 0, none⟩ = some (.int .u64 ((lb a 0 : Nat) : Int)) ∧ X.cell? ⟨w.heap.size, 1, none⟩ = some (.int .u64 ((lb a 1 : Nat) : Int)) ∧ X.cell? ⟨w.heap.size, 2, none⟩ = some (.int .u64 ((lb a 2 : Nat) : Int)) ∧ X.cell? ⟨w.heap.size, 3, none⟩ = some (.int .u64 ((lb a 3 : Nat) : Int)) ∧ Below w1.heap.size w1 X) → Below X.heap.size X Y → (Y.cell? ⟨w.heap.size, 0, none⟩ = some (.int .u64 ((lb a 0 : Nat) : Int)) ∧ Y.cell? ⟨w.heap.size, 1, none⟩ = some (.int .u64 ((lb a 1 : Nat) : Int)) ∧ Y.cell? ⟨w.heap.size, 2, none⟩ = some (.int .u64 ((lb a 2 : Nat) : Int)) ∧ Y.cell? ⟨w.heap.size, 3, none⟩ = some (.int .u64 ((lb a 3 : Nat) : Int)) ∧ Below w1.heap.size w1 Y) := fun X Y h k => by
    have hb := h.2.2.2.2.trans (k.mono h.2.2.2.2.size)
    have qa := A1.out.keep hb
    exact ⟨qa.frc0, qa.frc1, qa.frc2, qa.frc3, hb⟩
  have ca0 := A1.out.frc0
  have ca1 := A1.out.frc1
  have ca2 := A1.out.frc2
  have ca3 := A1.out.frc3
  go_region_held3 (fun w' => w'.cell? ⟨w.heap.size, 0, none⟩ = some (.int .u64 ((lb a 0 : Nat) : Int)) ∧ w'.cell? ⟨w.heap.size, 1, none⟩ = some (.int .u64 ((lb a 1 : Nat) : Int)) ∧ w'.cell? ⟨w.heap.size, 2, none⟩ = some (.int .u64 ((lb a 2 : Nat) : Int)) ∧ w'.cell? ⟨w.heap.size, 3, none⟩ = some (.int .u64 ((lb a 3 : Nat) : Int)) ∧ Below w1.heap.size w1 w')
    (first | exact ⟨ca0, ca1, ca2, ca3, (Below.refl _ _).drew⟩ | exact hS8 | exact hS7 | exact hS6 | exact hS5 | exact hS4 | exact hS3 | exact hS2 | exact hS1)
    (first
      | (go_at_call 12; ((with_reducible refine (fralive_v _).mono ?_); rintro e y1 ⟨rfl, hb1⟩; have hS1 := keep _ _ ‹_› hb1; clear hb1))
      | (go_at_call 13; ((with_reducible refine (frRight_v a _ HA.out r HR.out).mono ?_); rintro e y2 ⟨rfl, hb2⟩; have hS2 := keep _ _ ‹_› hb2; clear hb2))
      | (go_at_call 15; ((with_reducible refine (r3R_v _).mono ?_); rintro e y3 ⟨rfl, hb3⟩; have hS3 := keep _ _ ‹_› hb3; clear hb3))
      | (go_at_call 14; ((with_reducible refine (r3Less_v a rN _ HA.out frM_lt r HR.out).mono ?_); rintro e y4 ⟨rfl, hb4⟩; have hS4 := keep _ _ ‹_› hb4; clear hb4))
      | (go_at_call 16; ((with_reducible refine (frClean_v a _ HA.out v HV.out).mono ?_); rintro e y5 ⟨rfl, hb5⟩; have hS5 := keep _ _ ‹_› hb5; clear hb5))
      | (go_at_call 17; ((with_reducible refine (r3Clean_v a _ HA.out v HV.out).mono ?_); rintro e y6 ⟨rfl, hb6⟩; have hS6 := keep _ _ ‹_› hb6; clear hb6))
      | (go_at_call 18; ((with_reducible refine (frSmall_v k _ h0 h1 u HU.out).mono ?_); rintro e y7 ⟨rfl, hb7⟩; have hS7 := keep _ _ ‹_› hb7; clear hb7))
      | (go_at_call 19; ((with_reducible refine (r3Small_v k _ h0 h1 u HU.out).mono ?_); rintro e y8 ⟨rfl, hb8⟩; have hS8 := keep _ _ ‹_› hb8; clear hb8)))
  have HBE := Lib.hid (below_then HB0.out hS8.2.2.2.2)
  clear keep hS1 hS2 hS3 hS4 hS5 hS6 hS7 hS8
  go_wp2
  go_ret
  exact ⟨rfl, HBE.out⟩

set_option maxRecDepth 20000 in
set_option maxHeartbeats 4000000 in
theorem frPows_v (a b : Nat) (w : World) (ha : a < frB) (hb : b < frB) :
    Calls Try.prog 6 #[frV a, frV b] w (Is (.bool true) w) := by
  obtain ⟨w2, hw2, a1, a2, hb0, hsz⟩ := fr_lay_vv 24 w a b
  have HW := Lib.hid hw2
  have A1 := Lib.hid a1
  have A2 := Lib.hid a2
  have HB0 := Lib.hid hb0
  have HA := Lib.hid ha
  have HB := Lib.hid hb
  obtain ⟨x, hx⟩ : ∃ x, x = a % rN := ⟨_, rfl⟩
  have HX := Lib.hid hx
  have HXM := Lib.hid (show x < rN by rw [hx]; exact frM_mod a)
  obtain ⟨v, hv⟩ : ∃ v, v = a ^ b % rN := ⟨_, rfl⟩
  have HV := Lib.hid hv
  have HV2 := Lib.hid (show v = x ^ b % rN by rw [hv, hx, ← Nat.pow_mod])
  have hq1 := fr_refl v
  clear hw2 a1 a2 hb0 hsz ha hb hx hv
  go_enter Try.func6, Try.ntmps6
  go_wp2_with fail
  rw [HW.out]
  clear HW
  have keep : ∀ X Y : World, (X.cell? ⟨w.heap.size, 0, none⟩ = some (.int .u64 ((lb a 0 : Nat) : Int)) ∧ X.cell? ⟨w.heap.size, 1, none⟩ = some (.int .u64 ((lb a 1 : Nat) : Int)) ∧ X.cell? ⟨w.heap.size, 2, none⟩ = some (.int .u64 ((lb a 2 : Nat) : Int)) ∧ X.cell? ⟨w.heap.size, 3, none⟩ = some (.int .u64 ((lb a 3 : Nat) : Int)) ∧ X.cell? ⟨w.heap.size + 1, 0, none⟩ = some (.int .u64 ((lb b 0 : Nat) : Int)) ∧ X.cell? ⟨w.heap.size + 1, 1, none⟩ = some (.int .u64 ((lb b 1 : Nat) : Int)) ∧ X.cell? ⟨w.heap.size + 1, 2, none⟩ = some (.int .u64 ((lb b 2 : Nat) : Int)) ∧ X.cell? ⟨w.heap.size + 1, 3, none⟩ = some (.int .u64 ((lb b 3 : Nat) : Int)) ∧ Below w2.heap.size w2 X) → Below X.heap.size X Y → (Y.cell? ⟨w.heap.size, 0, none⟩ = some (.int .u64 ((lb a 0 : Nat) : Int)) ∧ Y.cell? ⟨w.heap.size, 1, none⟩ = some (.int .u64 ((lb a 1 : Nat) : Int)) ∧ Y.cell? ⟨w.heap.size, 2, none⟩ = some (.int .u64 ((lb a 2 : Nat) : Int)) ∧ Y.cell? ⟨w.heap.size, 3, none⟩ = some (.int .u64 ((lb a 3 : Nat) : Int)) ∧ Y.cell? ⟨w.heap.size + 1, 0, none⟩ = some (.int .u64 ((lb b 0 : Nat) : Int)) ∧ Y.cell? ⟨w.heap.size + 1, 1, none⟩ = some (.int .u64 ((lb b 1 : Nat) : Int)) ∧ Y.cell? ⟨w.heap.size + 1, 2, none⟩ = some (.int .u64 ((lb b 2 : Nat) : Int)) ∧ Y.cell? ⟨w.heap.size + 1, 3, none⟩ = some (.int .u64 ((lb b 3 : Nat) : Int)) ∧ Below w2.heap.size w2 Y) := fun X Y h k => by
    have hb := h.2.2.2.2.2.2.2.2.trans (k.mono h.2.2.2.2.2.2.2.2.size)
    have qa := A1.out.keep hb
    have qb := A2.out.keep hb
    exact ⟨qa.frc0, qa.frc1, qa.frc2, qa.frc3, qb.frc0, qb.frc1, qb.frc2, qb.frc3, hb⟩
  have ca0 := A1.out.frc0
  have ca1 := A1.out.frc1
  have ca2 := A1.out.frc2
  have ca3 := A1.out.frc3
  have cb0 := A2.out.frc0
  have cb1 := A2.out.frc1
  have cb2 := A2.out.frc2
  have cb3 := A2.out.frc3
  go_region_held3 (fun w' => w'.cell? ⟨w.heap.size, 0, none⟩ = some (.int .u64 ((lb a 0 : Nat) : Int)) ∧ w'.cell? ⟨w.heap.size, 1, none⟩ = some (.int .u64 ((lb a 1 : Nat) : Int)) ∧ w'.cell? ⟨w.heap.size, 2, none⟩ = some (.int .u64 ((lb a 2 : Nat) : Int)) ∧ w'.cell? ⟨w.heap.size, 3, none⟩ = some (.int .u64 ((lb a 3 : Nat) : Int)) ∧ w'.cell? ⟨w.heap.size + 1, 0, none⟩ = some (.int .u64 ((lb b 0 : Nat) : Int)) ∧ w'.cell? ⟨w.heap.size + 1, 1, none⟩ = some (.int .u64 ((lb b 1 : Nat) : Int)) ∧ w'.cell? ⟨w.heap.size + 1, 2, none⟩ = some (.int .u64 ((lb b 2 : Nat) : Int)) ∧ w'.cell? ⟨w.heap.size + 1, 3, none⟩ = some (.int .u64 ((lb b 3 : Nat) : Int)) ∧ Below w2.heap.size w2 w')
    (first | exact ⟨ca0, ca1, ca2, ca3, cb0, cb1, cb2, cb3, (Below.refl _ _).drew⟩ | exact hS4 | exact hS3 | exact hS2 | exact hS1)
    (first
      | (go_at_call 12; ((with_reducible refine (fralive_v _).mono ?_); rintro e y1 ⟨rfl, hb1⟩; have hS1 := keep _ _ ‹_› hb1; clear hb1))
      | (go_at_call 30; ((with_reducible refine (frPow_v a b _ HA.out HB.out v HV.out).mono ?_); rintro e y2 ⟨rfl, hb2⟩; have hS2 := keep _ _ ‹_› hb2; clear hb2))
      | (go_at_call 17; ((with_reducible refine (r3Clean_v a _ HA.out x HX.out).mono ?_); rintro e y3 ⟨rfl, hb3⟩; have hS3 := keep _ _ ‹_› hb3; clear hb3))
      | (go_at_call 31; ((with_reducible refine (r3Pow_v x b _ HXM.out HB.out v HV2.out).mono ?_); rintro e y4 ⟨rfl, hb4⟩; have hS4 := keep _ _ ‹_› hb4; clear hb4)))
  have HBE := Lib.hid (below_then HB0.out hS4.2.2.2.2.2.2.2.2)
  clear keep hS1 hS2 hS3 hS4
  go_wp2
  go_ret
  exact ⟨rfl, HBE.out⟩
end Go.Proofs.Ytgihdmhcnifdfaa

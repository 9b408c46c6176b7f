/- What is proved here: contracts of fp.Small and Put. -/
import Derived.Test.YthmdfjlmmfphiaaFn3Fp
import Derived.Test.YthmdfjlmmfphiaaRef4Fp
import Derived.Test.YthmdfjlmmfphiaaPut
namespace Go.Proofs.Ythmdfjlmmfphiaa
open Go.RowKit

theorem fpsmall_turn {n : Int} (h0 : -9223372036854775808 ≤ n) (h1 : n < 0) : ∃ N : Nat, IntKind.u64.wrap (-(IntKind.u64.wrap n)) = (N : Int) ∧ N = (-n).toNat := by
  refine ⟨(-n).toNat, ?_, rfl⟩
  rw [IntKind.wrap_u64, IntKind.wrap_u64]
  omega

set_option maxRecDepth 20000 in
set_option maxHeartbeats 4000000 in
theorem fpSmall_v (n : Int) (w : World) (h0 : -9223372036854775808 ≤ n) (h1 : n ≤ 9223372036854775807) (v : Nat) (hv : v = fpSmallOf n) :
    Calls Try.prog 18 #[.int .i64 n] w (Is (fpV v) w) := by
  by_cases h : 0 ≤ n
  · obtain ⟨N, rfl⟩ := Int.eq_ofNat_of_zero_le h
    have HE := Lib.hid (show fpV v = .agg #[.int .u64 (N : Int), .int .u64 0, .int .u64 0, .int .u64 0, .int .u64 0, .int .u64 0] by rw [hv, fpsmall_pos h h1, Int.toNat_natCast]; exact fp_small (by omega))
    have hb := Lib.hid (below_alloc w (.cells #[.int .u64 (N : Int), .int .u64 0, .int .u64 0, .int .u64 0, .int .u64 0, .int .u64 0] 24))
    clear hv
    go_enter Try.func18, Try.ntmps18
    go_wp2
    refine bodyPost_ret (v := .agg #[.int .u64 (N : Int), .int .u64 0, .int .u64 0, .int .u64 0, .int .u64 0, .int .u64 0]) (by simp [results, Try.results18, go_sem]) rfl ⟨by rw [HE.out], ?_⟩
    exact hb.out
  · obtain ⟨N, hN, hN2⟩ := fpsmall_turn h0 (show n < 0 by omega)
    obtain ⟨w1, hw1, a1, hb1, _⟩ := fp_lay_z 24 w
    have hle := fpsmall_le (N := N) (by omega)
    have HL := Lib.hid (show N < fpB from Nat.lt_of_le_of_lt hle fpM_lt)
    have HE := Lib.hid (show v = (pN - N % pN) % pN by
      have hr : 9223372036854775808 < pN := by decide +kernel
      rw [hv, fpsmall_neg (by omega) h0, ← hN2, Nat.mod_eq_of_lt (show N < pN by omega), Nat.mod_eq_of_lt (by omega)])
    have HS := Lib.hid (fp_small (N := N) (by omega))
    have hn : n < 0 := by omega
    have HW := Lib.hid hw1
    have A1 := Lib.hid a1
    have HB1 := Lib.hid hb1
    clear hw1 a1 hb1 hN2 hv h hle
    go_enter Try.func18, Try.ntmps18
    go_wp2_with fail
    rw [HW.out]
    have HM := Lib.hid (fpNeg_v N w1 HL.out v HE.out)
    rw [HS.out] at HM
    refine HM.out.mono ?_
    rintro e Y2 ⟨rfl, hb3⟩
    clear HM
    have ZE := A1.out.keep hb3
    have m0 := ZE.fpc0
    have m1 := ZE.fpc1
    have m2 := ZE.fpc2
    have m3 := ZE.fpc3
    have m4 := ZE.fpc4
    have m5 := ZE.fpc5
    have q0 := ZE.frozen 0
    have q1 := ZE.frozen 1
    have q2 := ZE.frozen 2
    have q3 := ZE.frozen 3
    have q4 := ZE.frozen 4
    have q5 := ZE.frozen 5
    have HBE := Lib.hid (below_then HB1.out hb3)
    clear hb3 ZE
    go_wp2
    refine bodyPost_ret (v := fpV v) (by simp [results, Try.results18, go_sem, m0, m1, m2, m3, m4, m5]) rfl ⟨rfl, ?_⟩
    exact fp_below HBE.out (by omega) _ _ _ _ _ _

set_option maxRecDepth 20000 in
set_option maxHeartbeats 4000000 in
theorem fpPut_v (a : Nat) (w : World) (ha : a < fpB) :
    Calls Try.prog 38 #[fpV a] w (MakesT (be 48 (a % pN)) w) := by
  obtain ⟨x, hx⟩ : ∃ x, x = a % pN := ⟨_, rfl⟩
  rw [← hx]
  have HXB := Lib.hid (show x < fpB by rw [hx]; exact fpM_modB a)
  have HX := Lib.hid hx
  have HA := Lib.hid ha
  obtain ⟨w3, hw3, a1, hb0, hsz⟩ := fp_lay_v 24 w a
  have HW := Lib.hid hw3
  have A1 := Lib.hid a1
  have HB0 := Lib.hid hb0
  clear hx ha hw3 a1 hb0 hsz
  go_enter Try.func38, Try.ntmps38
  go_wp2_with fail
  rw [HW.out]
  clear HW
  refine (fpClean_v a _ HA.out x HX.out).mono ?_
  rintro e Y2 ⟨rfl, hb2⟩
  have p1 := A1.out.keep hb2
  have l0 := p1.fpc0
  have l1 := p1.fpc1
  have l2 := p1.fpc2
  have l3 := p1.fpc3
  have l4 := p1.fpc4
  have l5 := p1.fpc5
  have q0 := p1.frozen 0
  have q1 := p1.frozen 1
  have q2 := p1.frozen 2
  have q3 := p1.frozen 3
  have q4 := p1.frozen 4
  have q5 := p1.frozen 5
  obtain ⟨W, hW, o1, oo, ob, osz⟩ := fp_one p1 x
  have O1 := Lib.hid o1
  have OB := Lib.hid (ob _ _ (below_then HB0.out hb2) (Nat.le_refl _))
  have HW := Lib.hid hW
  clear hW o1 oo ob osz hb2 p1 A1 HB0
  go_wp2_with fail
  rw [HW.out]
  clear HW l0 l1 l2 l3 l4 l5 q0 q1 q2 q3 q4 q5
  have HP := Lib.hid (put_any _ 6 6 _ W (by decide) (by decide) O1.out.vrow)
  rw [List.take_of_length_le (by rw [length_row]; decide), fpval HXB.out, show 8 * min 6 16 = 48 from rfl] at HP
  refine HP.out.mono ?_
  rintro e w5 ⟨rfl, hb5⟩
  have HB5 := Lib.hid (below_then OB.out hb5)
  clear HP hb5
  go_wp2
  go_ret
  exact ⟨rfl, HB5.out⟩
end Go.Proofs.Ythmdfjlmmfphiaa

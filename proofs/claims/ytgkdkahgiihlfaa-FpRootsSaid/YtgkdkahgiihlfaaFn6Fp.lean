/- What is proved here: contracts of fp.Small and Put. -/
import Derived.Test.YtgkdkahgiihlfaaFn3Fp
import Derived.Test.YtgkdkahgiihlfaaRef4Fp
import Derived.Test.YtgkdkahgiihlfaaPut
namespace Go.Proofs.Ytgkdkahgiihlfaa
open Go.RowKit

theorem fpsmall_turn {n : Int} (h0 : -9223372036854775808 ≤ n) (h1 : n < 0) : ∃ N : Nat, IntKind.u64.wrap (-(IntKind.u64.wrap n)) = (N : Int) ∧ N = (-n).toNat := by
  refine ⟨(-n).toNat, ?_, rfl⟩
  rw [IntKind.wrap_u64, IntKind.wrap_u64]
  omega

set_option maxRecDepth 20000 in
set_option maxHeartbeats 4000000 in
theorem fpSmall_v (n : Int) (w : World) (h0 : -9223372036854775808 ≤ n) (h1 : n ≤ 9223372036854775807) (v : Nat) (hv : v = fpSmallOf n) :
    Calls Try.prog 24 #[.int .i64 n] w (Is (fpV v) w) := by
  by_cases h : 0 ≤ n
  · obtain ⟨N, rfl⟩ := Int.eq_ofNat_of_zero_le h
    have HE := Lib.hid (show fpV v = .agg #[.int .u64 (N : Int), .int .u64 0, .int .u64 0, .int .u64 0, .int .u64 0, .int .u64 0] by rw [hv, fpsmall_pos h h1, Int.toNat_natCast]; exact fp_small (by omega))
    have hb := Lib.hid (below_alloc w (.cells #[.int .u64 (N : Int), .int .u64 0, .int .u64 0, .int .u64 0, .int .u64 0, .int .u64 0] 24))
    clear hv
    go_enter Try.func24, Try.ntmps24
    go_wp2
    refine bodyPost_ret (v := .agg #[.int .u64 (N : Int), .int .u64 0, .int .u64 0, .int .u64 0, .int .u64 0, .int .u64 0]) (by simp [results, Try.results24, go_sem]) rfl ⟨by rw [HE.out], ?_⟩
    exact hb.out
  · obtain ⟨N, hN, hN2⟩ := fpsmall_turn h0 (show n < 0 by omega)
    obtain ⟨w1, hw1, a1, hb1, _⟩ := fp_lay_z 24 w
    have hle := fpsmall_le (N := N) (by omega)
    have HL := Lib.hid (show N < fpB from Nat.lt_of_le_of_lt hle fpM_lt)
    have HE := Lib.hid (show v = (pN - N % pN) % pN by
      have hr : 9223372036854775808 < pN := by decide +kernel
      rw [hv, fpsmall_neg (by omega) h0, ← hN2, Nat.mod_eq_of_lt (show N < pN by omega), Nat.mod_eq_of_lt (by omega)])
    have HS := Lib.hid (fp_small (N := N) (by omega))
    have hn : n < 0 := by omega
    have HW := Lib.hid hw1
    have A1 := Lib.hid a1
    have HB1 := Lib.hid hb1
    clear hw1 a1 hb1 hN2 hv h hle
    go_enter Try.func24, Try.ntmps24
    go_wp2_with fail
    rw [HW.out]
    have HM := Lib.hid (fpNeg_v N w1 HL.out v HE.out)
    rw [HS.out] at HM
    refine HM.out.mono ?_
    rintro e Y2 ⟨rfl, hb3⟩
    clear HM
    have ZE := A1.out.keep hb3
    have m0 := ZE.fpc0
    have m1 := ZE.fpc1
    have m2 := ZE.fpc2
    have m3 := ZE.fpc3
    have m4 := ZE.fpc4
    have m5 := ZE.fpc5
    have q0 := ZE.frozen 0
    have q1 := ZE.frozen 1
    have q2 := ZE.frozen 2
    have q3 := ZE.frozen 3
    have q4 := ZE.frozen 4
    have q5 := ZE.frozen 5
    have HBE := Lib.hid (below_then HB1.out hb3)
    clear hb3 ZE
    go_wp2
    refine bodyPost_ret (v := fpV v) (by simp [results, Try.results24, go_sem, m0, m1, m2, m3, m4, m5]) rfl ⟨rfl, ?_⟩
    exact fp_below HBE.out (by omega) _ _ _ _ _ _
end Go.Proofs.Ytgkdkahgiihlfaa

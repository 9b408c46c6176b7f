/- What is proved here: contracts of fr.Small and Put. -/
import Derived.Test.YtigjplhicmdgiaaFn3Fr
import Derived.Test.YtigjplhicmdgiaaRef4Fr
import Derived.Test.YtigjplhicmdgiaaPut
namespace Go.Proofs.Ytigjplhicmdgiaa
open Go.RowKit

theorem frsmall_turn {n : Int} (h0 : -9223372036854775808 ≤ n) (h1 : n < 0) : ∃ N : Nat, IntKind.u64.wrap (-(IntKind.u64.wrap n)) = (N : Int) ∧ N = (-n).toNat := by
  refine ⟨(-n).toNat, ?_, rfl⟩
  rw [IntKind.wrap_u64, IntKind.wrap_u64]
  omega

set_option maxRecDepth 20000 in
set_option maxHeartbeats 4000000 in
theorem frSmall_v (n : Int) (w : World) (h0 : -9223372036854775808 ≤ n) (h1 : n ≤ 9223372036854775807) (v : Nat) (hv : v = frSmallOf n) :
    Calls Try.prog 18 #[.int .i64 n] w (Is (frV v) w) := by
  by_cases h : 0 ≤ n
  · obtain ⟨N, rfl⟩ := Int.eq_ofNat_of_zero_le h
    have HE := Lib.hid (show frV v = .agg #[.int .u64 (N : Int), .int .u64 0, .int .u64 0, .int .u64 0] by rw [hv, frsmall_pos h h1, Int.toNat_natCast]; exact fr_small (by omega))
    have hb := Lib.hid (below_alloc w (.cells #[.int .u64 (N : Int), .int .u64 0, .int .u64 0, .int .u64 0] 24))
    clear hv
    go_enter Try.func18, Try.ntmps18
    go_wp2
    refine bodyPost_ret (v := .agg #[.int .u64 (N : Int), .int .u64 0, .int .u64 0, .int .u64 0]) (by simp [results, Try.results18, go_sem]) rfl ⟨by rw [HE.out], ?_⟩
    exact hb.out
  · obtain ⟨N, hN, hN2⟩ := frsmall_turn h0 (show n < 0 by omega)
    obtain ⟨w1, hw1, a1, hb1, _⟩ := fr_lay_z 24 w
    have hle := frsmall_le (N := N) (by omega)
    have HL := Lib.hid (show N < frB from Nat.lt_of_le_of_lt hle frM_lt)
    have HE := Lib.hid (show v = (rN - N % rN) % rN by
      have hr : 9223372036854775808 < rN := by decide +kernel
      rw [hv, frsmall_neg (by omega) h0, ← hN2, Nat.mod_eq_of_lt (show N < rN by omega), Nat.mod_eq_of_lt (by omega)])
    have HS := Lib.hid (fr_small (N := N) (by omega))
    have hn : n < 0 := by omega
    have HW := Lib.hid hw1
    have A1 := Lib.hid a1
    have HB1 := Lib.hid hb1
    clear hw1 a1 hb1 hN2 hv h hle
    go_enter Try.func18, Try.ntmps18
    go_wp2_with fail
    rw [HW.out]
    have HM := Lib.hid (frNeg_v N w1 HL.out v HE.out)
    rw [HS.out] at HM
    refine HM.out.mono ?_
    rintro e Y2 ⟨rfl, hb3⟩
    clear HM
    have ZE := A1.out.keep hb3
    have m0 := ZE.frc0
    have m1 := ZE.frc1
    have m2 := ZE.frc2
    have m3 := ZE.frc3
    have q0 := ZE.frozen 0
    have q1 := ZE.frozen 1
    have q2 := ZE.frozen 2
    have q3 := ZE.frozen 3
    have HBE := Lib.hid (below_then HB1.out hb3)
    clear hb3 ZE
    go_wp2
    refine bodyPost_ret (v := frV v) (by simp [results, Try.results18, go_sem, m0, m1, m2, m3]) rfl ⟨rfl, ?_⟩
    exact fr_below HBE.out (by omega) _ _ _ _

set_option maxRecDepth 20000 in
set_option maxHeartbeats 4000000 in
theorem frPut_v (a : Nat) (w : World) (ha : a < frB) :
    Calls Try.prog 10 #[frV a] w (MakesT (be 32 (a % rN)) w) := by
  obtain ⟨x, hx⟩ : ∃ x, x = a % rN := ⟨_, rfl⟩
  rw [← hx]
  have HXB := Lib.hid (show x < frB by rw [hx]; exact frM_modB a)
  have HX := Lib.hid hx
  have HA := Lib.hid ha
  obtain ⟨w3, hw3, a1, hb0, hsz⟩ := fr_lay_v 24 w a
  have HW := Lib.hid hw3
  have A1 := Lib.hid a1
  have HB0 := Lib.hid hb0
  clear hx ha hw3 a1 hb0 hsz
  go_enter Try.func10, Try.ntmps10
  go_wp2_with fail
  rw [HW.out]
  clear HW
  refine (frClean_v a _ HA.out x HX.out).mono ?_
  rintro e Y2 ⟨rfl, hb2⟩
  have p1 := A1.out.keep hb2
  have l0 := p1.frc0
  have l1 := p1.frc1
  have l2 := p1.frc2
  have l3 := p1.frc3
  have q0 := p1.frozen 0
  have q1 := p1.frozen 1
  have q2 := p1.frozen 2
  have q3 := p1.frozen 3
  obtain ⟨W, hW, o1, oo, ob, osz⟩ := fr_one p1 x
  have O1 := Lib.hid o1
  have OB := Lib.hid (ob _ _ (below_then HB0.out hb2) (Nat.le_refl _))
  have HW := Lib.hid hW
  clear hW o1 oo ob osz hb2 p1 A1 HB0
  go_wp2_with fail
  rw [HW.out]
  clear HW l0 l1 l2 l3 q0 q1 q2 q3
  have HP := Lib.hid (put_any _ 4 4 _ W (by decide) (by decide) O1.out.vrow)
  rw [List.take_of_length_le (by rw [length_row]; decide), frval HXB.out, show 8 * min 4 16 = 32 from rfl] at HP
  refine HP.out.mono ?_
  rintro e w5 ⟨rfl, hb5⟩
  have HB5 := Lib.hid (below_then OB.out hb5)
  clear HP hb5
  go_wp2
  go_ret
  exact ⟨rfl, HB5.out⟩
end Go.Proofs.Ytigjplhicmdgiaa

/- What is proved here: contracts of fr.Small and Put. -/
import Derived.Test.YtlpaegmnahcbjaaFn3Fr
import Derived.Test.YtlpaegmnahcbjaaRef4Fr
import Derived.Test.YtlpaegmnahcbjaaPut
namespace Go.Proofs.Ytlpaegmnahcbjaa
open Go.RowKit

theorem frsmall_turn {n : Int} (h0 : -9223372036854775808 ≤ n) (h1 : n < 0) : ∃ N : Nat, IntKind.u64.wrap (-(IntKind.u64.wrap n)) = (N : Int) ∧ N = (-n).toNat := by
  refine ⟨(-n).toNat, ?_, rfl⟩
  rw [IntKind.wrap_u64, IntKind.wrap_u64]
  omega

set_option maxRecDepth 20000 in
set_option maxHeartbeats 4000000 in
theorem frPut_v (a : Nat) (w : World) (ha : a < frB) :
    Calls Try.prog 8 #[frV a] w (MakesT (be 32 (a % rN)) w) := by
  obtain ⟨x, hx⟩ : ∃ x, x = a % rN := ⟨_, rfl⟩
  rw [← hx]
  have HXB := Lib.hid (show x < frB by rw [hx]; exact frM_modB a)
  have HX := Lib.hid hx
  have HA := Lib.hid ha
  obtain ⟨w3, hw3, a1, hb0, hsz⟩ := fr_lay_v 24 w a
  have HW := Lib.hid hw3
  have A1 := Lib.hid a1
  have HB0 := Lib.hid hb0
  clear hx ha hw3 a1 hb0 hsz
  go_enter Try.func8, Try.ntmps8
  go_wp2_with fail
  rw [HW.out]
  clear HW
  refine (frClean_v a _ HA.out x HX.out).mono ?_
  rintro e Y2 ⟨rfl, hb2⟩
  have p1 := A1.out.keep hb2
  have l0 := p1.frc0
  have l1 := p1.frc1
  have l2 := p1.frc2
  have l3 := p1.frc3
  have q0 := p1.frozen 0
  have q1 := p1.frozen 1
  have q2 := p1.frozen 2
  have q3 := p1.frozen 3
  obtain ⟨W, hW, o1, oo, ob, osz⟩ := fr_one p1 x
  have O1 := Lib.hid o1
  have OB := Lib.hid (ob _ _ (below_then HB0.out hb2) (Nat.le_refl _))
  have HW := Lib.hid hW
  clear hW o1 oo ob osz hb2 p1 A1 HB0
  go_wp2_with fail
  rw [HW.out]
  clear HW l0 l1 l2 l3 q0 q1 q2 q3
  have HP := Lib.hid (put_any _ 4 4 _ W (by decide) (by decide) O1.out.vrow)
  rw [List.take_of_length_le (by rw [length_row]; decide), frval HXB.out, show 8 * min 4 16 = 32 from rfl] at HP
  refine HP.out.mono ?_
  rintro e w5 ⟨rfl, hb5⟩
  have HB5 := Lib.hid (below_then OB.out hb5)
  clear HP hb5
  go_wp2
  go_ret
  exact ⟨rfl, HB5.out⟩
end Go.Proofs.Ytlpaegmnahcbjaa

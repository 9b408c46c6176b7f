/- What is proved here: contracts of fr.Pow and Inv. -/
import Derived.Test.YtlpaegmnahcbjaaFn1Fr
import Derived.Test.YtlpaegmnahcbjaaFn4Fr
import Derived.Test.YtlpaegmnahcbjaaPow
namespace Go.Proofs.Ytlpaegmnahcbjaa
open Go.RowKit

theorem frM2_lit : frV (rN - 2) = .agg #[.int .u64 18446744069414584319, .int .u64 6034159408538082302, .int .u64 3691218898639771653, .int .u64 8353516859464449352] := by
  show Value.agg #[.int .u64 ((lb (rN - 2) 0 : Nat) : Int), .int .u64 ((lb (rN - 2) 1 : Nat) : Int), .int .u64 ((lb (rN - 2) 2 : Nat) : Int), .int .u64 ((lb (rN - 2) 3 : Nat) : Int)] = _
  rw [show lb (rN - 2) 0 = 18446744069414584319 by decide +kernel, show lb (rN - 2) 1 = 6034159408538082302 by decide +kernel, show lb (rN - 2) 2 = 3691218898639771653 by decide +kernel, show lb (rN - 2) 3 = 8353516859464449352 by decide +kernel]
  rfl

theorem frM2_ltB : rN - 2 < frB := by decide +kernel

set_option maxRecDepth 20000 in
set_option maxHeartbeats 4000000 in
theorem frPow_v (a b : Nat) (w : World) (ha : a < frB) (hb : b < frB) (v : Nat) (hv : v = a ^ b % rN) :
    Calls Try.prog 34 #[frV a, frV b] w (Is (frV v) w) := by
  obtain ⟨x, hx⟩ : ∃ x, x = a % rN := ⟨_, rfl⟩
  have HXM := Lib.hid (show x < rN by rw [hx]; exact frM_mod a)
  have HXB := Lib.hid (Nat.lt_trans HXM.out frM_lt)
  have HV := Lib.hid (show val (row 4 x) ^ val (row 4 b) % val (row 4 rN) = v by rw [frval HXB.out, frval hb, frval_M, hv, hx, ← Nat.pow_mod])
  have HXV := Lib.hid (show val (row 4 x) < val (row 4 rN) by rw [frval HXB.out, frval_M]; exact HXM.out)
  have HX := Lib.hid hx
  have HA := Lib.hid ha
  obtain ⟨w3, hw3, a1, a2, a3, hb0, hsz⟩ := fr_lay_vvz 24 w a b
  have HW := Lib.hid hw3
  have A1 := Lib.hid a1
  have A2 := Lib.hid a2
  have A3 := Lib.hid a3
  have HB0 := Lib.hid hb0
  clear hx ha hb hw3 a1 a2 a3 hb0 hsz hv
  go_enter Try.func34, Try.ntmps34
  go_wp2_with fail
  rw [HW.out]
  clear HW
  refine (frClean_v a _ HA.out x HX.out).mono ?_
  rintro e Y2 ⟨rfl, hb2⟩
  have p1 := A1.out.keep hb2
  have l0 := p1.frc0
  have l1 := p1.frc1
  have l2 := p1.frc2
  have l3 := p1.frc3
  have q0 := p1.frozen 0
  have q1 := p1.frozen 1
  have q2 := p1.frozen 2
  have q3 := p1.frozen 3
  have hp3 : w.heap.size + 1 + 1 < w3.heap.size := A3.out.lt
  obtain ⟨W, hW, o1, oo, ob, osz⟩ := fr_one p1 x
  have O1 := Lib.hid o1
  have O2 := Lib.hid (oo _ _ _ (by omega : w.heap.size + 1 ≠ w.heap.size) (A2.out.keep hb2))
  have O3 := Lib.hid (oo _ _ _ (by omega : w.heap.size + 1 + 1 ≠ w.heap.size) (A3.out.keep hb2))
  have OB := Lib.hid (ob _ _ (below_then HB0.out hb2) (Nat.le_refl _))
  have HW := Lib.hid hW
  clear hW o1 oo ob osz hb2 p1 A1 A2 A3 HB0 hp3
  go_wp2_with fail
  rw [HW.out]
  clear HW l0 l1 l2 l3 q0 q1 q2 q3
  refine (frorder_v _).mono ?_
  rintro e w5 ⟨rfl, hb5⟩
  obtain ⟨w6, hw6, a6, hb6, hs6⟩ := fr_lay_v 24 w5 rN
  have HW6 := Lib.hid hw6
  have X1 := Lib.hid ((O1.out.keep hb5).keep hb6).vrow
  have X2 := Lib.hid ((O2.out.keep hb5).keep hb6).vrow
  have X3 := Lib.hid ((O3.out.keep hb5).keep hb6)
  have X4 := Lib.hid a6.vrow
  have XB := Lib.hid (below_then OB.out (below_then hb5 hb6))
  clear hw6 a6 hb5 hb6 hs6 O1 O2 O3 OB
  go_wp2_with fail
  rw [HW6.out]
  clear HW6
  go_region_with (go_at_call 51; refine (montPow_any _ 4 _ _ 4 4 _ _ 4 4 _ _ (by decide) (by decide) (by decide) (by decide) (by decide) (by decide) (by decide) X1.out.drew X2.out.drew X4.out.drew frisMod HXV.out).mono ?_; rintro e w7 ⟨g7, rfl, ho7, hg7, hb7⟩; have hb7' : Below w6.heap.size w6 w7 := (Below.refl w6.heap.size w6).drew.trans hb7; rw [HV.out] at ho7; have E1 := Lib.hid ho7.vrow; have E3 := Lib.hid (X3.out.keep hb7'); have EB := Lib.hid (below_then XB.out hb7'); clear ho7 hg7 hb7 hb7')
  all_goals
    go_wp2_with fail
    refine (frnumber_v _ 4 4 v _ rfl E1.out).mono ?_
    rintro e w9 ⟨rfl, hb9⟩
    have ZE := E3.out.keep hb9
    have m0 := ZE.frc0
    have m1 := ZE.frc1
    have m2 := ZE.frc2
    have m3 := ZE.frc3
    have q0 := ZE.frozen 0
    have q1 := ZE.frozen 1
    have q2 := ZE.frozen 2
    have q3 := ZE.frozen 3
    have HBE := Lib.hid (below_then EB.out hb9)
    clear hb9 ZE
    go_wp2
    refine bodyPost_ret (v := frV v) (by simp [results, Try.results34, go_sem, m0, m1, m2, m3]) rfl ⟨rfl, ?_⟩
    exact fr_below HBE.out (by omega) _ _ _ _

set_option maxRecDepth 20000 in
set_option maxHeartbeats 4000000 in
theorem frInv_v (a : Nat) (w : World) (ha : a < frB) (v : Nat) (hv : v = a ^ (rN - 2) % rN) :
    Calls Try.prog 14 #[frV a] w (Is (frV v) w) := by
  have HP := fun W => Lib.hid (frPow_v a (rN - 2) W ha frM2_ltB v hv)
  rw [frM2_lit] at HP
  have HO := fun W => Lib.hid (frorder_v W)
  rw [frM_lit] at HO
  obtain ⟨w1, hw1, a1, z1, hb1, hs1⟩ := fr_lay_vz 24 w a
  have HW := Lib.hid hw1
  have HB1 := Lib.hid hb1
  have Z1 := Lib.hid z1
  have A1 := Lib.hid a1
  clear hw1 hb1 a1 z1 hs1 ha hv
  go_enter Try.func14, Try.ntmps14
  go_wp2_with fail
  rw [HW.out]
  clear HW
  refine (HO _).out.mono ?_
  rintro e w2 ⟨rfl, hb2⟩
  have a2 := A1.out.keep hb2
  have c0 := a2.frc0
  have c1 := a2.frc1
  have c2 := a2.frc2
  have c3 := a2.frc3
  have hp := a2.lt
  have Z2 := Lib.hid (Z1.out.keep hb2)
  have HB2 := Lib.hid (below_then HB1.out hb2)
  clear a2 hb2 A1 Z1 HB1
  go_wp2_with fail
  refine (HP _).out.mono ?_
  rintro e w5 ⟨rfl, hb5⟩
  have Z3 := Lib.hid (Z2.out.keep (below_alloc w2 (.cells #[.int .u64 18446744069414584319, .int .u64 6034159408538082302, .int .u64 3691218898639771653, .int .u64 8353516859464449352] 24)))
  have HB3 := Lib.hid (below_then HB2.out (below_alloc w2 (.cells #[.int .u64 18446744069414584319, .int .u64 6034159408538082302, .int .u64 3691218898639771653, .int .u64 8353516859464449352] 24)))
  have ZE := Z3.out.keep hb5
  have m0 := ZE.frc0
  have m1 := ZE.frc1
  have m2 := ZE.frc2
  have m3 := ZE.frc3
  have q0 := ZE.frozen 0
  have q1 := ZE.frozen 1
  have q2 := ZE.frozen 2
  have q3 := ZE.frozen 3
  have HBE := Lib.hid (below_then HB3.out hb5)
  clear hb5 ZE
  go_wp2
  refine bodyPost_ret (v := frV v) (by simp [results, Try.results14, go_sem, m0, m1, m2, m3]) rfl ⟨rfl, ?_⟩
  exact fr_below HBE.out (by omega) _ _ _ _
end Go.Proofs.Ytlpaegmnahcbjaa

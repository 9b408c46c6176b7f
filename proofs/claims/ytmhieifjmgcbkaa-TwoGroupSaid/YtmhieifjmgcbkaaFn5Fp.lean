/- What is proved here: contracts of fp.Pow and Inv. -/
import Derived.Test.YtmhieifjmgcbkaaFn1Fp
import Derived.Test.YtmhieifjmgcbkaaFn4Fp
import Derived.Test.YtmhieifjmgcbkaaPow
namespace Go.Proofs.Ytmhieifjmgcbkaa
open Go.RowKit

theorem fpM2_lit : fpV (pN - 2) = .agg #[.int .u64 13402431016077863593, .int .u64 2210141511517208575, .int .u64 7435674573564081700, .int .u64 7239337960414712511, .int .u64 5412103778470702295, .int .u64 1873798617647539866] := by
  show Value.agg #[.int .u64 ((lb (pN - 2) 0 : Nat) : Int), .int .u64 ((lb (pN - 2) 1 : Nat) : Int), .int .u64 ((lb (pN - 2) 2 : Nat) : Int), .int .u64 ((lb (pN - 2) 3 : Nat) : Int), .int .u64 ((lb (pN - 2) 4 : Nat) : Int), .int .u64 ((lb (pN - 2) 5 : Nat) : Int)] = _
  rw [show lb (pN - 2) 0 = 13402431016077863593 by decide +kernel, show lb (pN - 2) 1 = 2210141511517208575 by decide +kernel, show lb (pN - 2) 2 = 7435674573564081700 by decide +kernel, show lb (pN - 2) 3 = 7239337960414712511 by decide +kernel, show lb (pN - 2) 4 = 5412103778470702295 by decide +kernel, show lb (pN - 2) 5 = 1873798617647539866 by decide +kernel]
  rfl

theorem fpM2_ltB : pN - 2 < fpB := by decide +kernel

set_option maxRecDepth 20000 in
set_option maxHeartbeats 4000000 in
theorem fpPow_v (a b : Nat) (w : World) (ha : a < fpB) (hb : b < fpB) (v : Nat) (hv : v = a ^ b % pN) :
    Calls Try.prog 81 #[fpV a, fpV b] w (Is (fpV v) w) := by
  obtain ⟨x, hx⟩ : ∃ x, x = a % pN := ⟨_, rfl⟩
  have HXM := Lib.hid (show x < pN by rw [hx]; exact fpM_mod a)
  have HXB := Lib.hid (Nat.lt_trans HXM.out fpM_lt)
  have HV := Lib.hid (show val (row 6 x) ^ val (row 6 b) % val (row 6 pN) = v by rw [fpval HXB.out, fpval hb, fpval_M, hv, hx, ← Nat.pow_mod])
  have HXV := Lib.hid (show val (row 6 x) < val (row 6 pN) by rw [fpval HXB.out, fpval_M]; exact HXM.out)
  have HX := Lib.hid hx
  have HA := Lib.hid ha
  obtain ⟨w3, hw3, a1, a2, a3, hb0, hsz⟩ := fp_lay_vvz 24 w a b
  have HW := Lib.hid hw3
  have A1 := Lib.hid a1
  have A2 := Lib.hid a2
  have A3 := Lib.hid a3
  have HB0 := Lib.hid hb0
  clear hx ha hb hw3 a1 a2 a3 hb0 hsz hv
  go_enter Try.func81, Try.ntmps81
  go_wp2_with fail
  rw [HW.out]
  clear HW
  refine (fpClean_v a _ HA.out x HX.out).mono ?_
  rintro e Y2 ⟨rfl, hb2⟩
  have p1 := A1.out.keep hb2
  have l0 := p1.fpc0
  have l1 := p1.fpc1
  have l2 := p1.fpc2
  have l3 := p1.fpc3
  have l4 := p1.fpc4
  have l5 := p1.fpc5
  have q0 := p1.frozen 0
  have q1 := p1.frozen 1
  have q2 := p1.frozen 2
  have q3 := p1.frozen 3
  have q4 := p1.frozen 4
  have q5 := p1.frozen 5
  have hp3 : w.heap.size + 1 + 1 < w3.heap.size := A3.out.lt
  obtain ⟨W, hW, o1, oo, ob, osz⟩ := fp_one p1 x
  have O1 := Lib.hid o1
  have O2 := Lib.hid (oo _ _ _ (by omega : w.heap.size + 1 ≠ w.heap.size) (A2.out.keep hb2))
  have O3 := Lib.hid (oo _ _ _ (by omega : w.heap.size + 1 + 1 ≠ w.heap.size) (A3.out.keep hb2))
  have OB := Lib.hid (ob _ _ (below_then HB0.out hb2) (Nat.le_refl _))
  have HW := Lib.hid hW
  clear hW o1 oo ob osz hb2 p1 A1 A2 A3 HB0 hp3
  go_wp2_with fail
  rw [HW.out]
  clear HW l0 l1 l2 l3 l4 l5 q0 q1 q2 q3 q4 q5
  refine (fpmodulus_v _).mono ?_
  rintro e w5 ⟨rfl, hb5⟩
  obtain ⟨w6, hw6, a6, hb6, hs6⟩ := fp_lay_v 24 w5 pN
  have HW6 := Lib.hid hw6
  have X1 := Lib.hid ((O1.out.keep hb5).keep hb6).vrow
  have X2 := Lib.hid ((O2.out.keep hb5).keep hb6).vrow
  have X3 := Lib.hid ((O3.out.keep hb5).keep hb6)
  have X4 := Lib.hid a6.vrow
  have XB := Lib.hid (below_then OB.out (below_then hb5 hb6))
  clear hw6 a6 hb5 hb6 hs6 O1 O2 O3 OB
  go_wp2_with fail
  rw [HW6.out]
  clear HW6
  go_region_with (go_at_call 87; refine (montPow_any _ 6 _ _ 6 6 _ _ 6 6 _ _ (by decide) (by decide) (by decide) (by decide) (by decide) (by decide) (by decide) X1.out.drew X2.out.drew X4.out.drew fpisMod HXV.out).mono ?_; rintro e w7 ⟨g7, rfl, ho7, hg7, hb7⟩; have hb7' : Below w6.heap.size w6 w7 := (Below.refl w6.heap.size w6).drew.trans hb7; rw [HV.out] at ho7; have E1 := Lib.hid ho7.vrow; have E3 := Lib.hid (X3.out.keep hb7'); have EB := Lib.hid (below_then XB.out hb7'); clear ho7 hg7 hb7 hb7')
  all_goals
    go_wp2_with fail
    refine (fpnumber_v _ 6 6 v _ rfl E1.out).mono ?_
    rintro e w9 ⟨rfl, hb9⟩
    have ZE := E3.out.keep hb9
    have m0 := ZE.fpc0
    have m1 := ZE.fpc1
    have m2 := ZE.fpc2
    have m3 := ZE.fpc3
    have m4 := ZE.fpc4
    have m5 := ZE.fpc5
    have q0 := ZE.frozen 0
    have q1 := ZE.frozen 1
    have q2 := ZE.frozen 2
    have q3 := ZE.frozen 3
    have q4 := ZE.frozen 4
    have q5 := ZE.frozen 5
    have HBE := Lib.hid (below_then EB.out hb9)
    clear hb9 ZE
    go_wp2
    refine bodyPost_ret (v := fpV v) (by simp [results, Try.results81, go_sem, m0, m1, m2, m3, m4, m5]) rfl ⟨rfl, ?_⟩
    exact fp_below HBE.out (by omega) _ _ _ _ _ _

set_option maxRecDepth 20000 in
set_option maxHeartbeats 4000000 in
theorem fpInv_v (a : Nat) (w : World) (ha : a < fpB) (v : Nat) (hv : v = a ^ (pN - 2) % pN) :
    Calls Try.prog 70 #[fpV a] w (Is (fpV v) w) := by
  have HP := fun W => Lib.hid (fpPow_v a (pN - 2) W ha fpM2_ltB v hv)
  rw [fpM2_lit] at HP
  have HO := fun W => Lib.hid (fpmodulus_v W)
  rw [fpM_lit] at HO
  obtain ⟨w1, hw1, a1, z1, hb1, hs1⟩ := fp_lay_vz 24 w a
  have HW := Lib.hid hw1
  have HB1 := Lib.hid hb1
  have Z1 := Lib.hid z1
  have A1 := Lib.hid a1
  clear hw1 hb1 a1 z1 hs1 ha hv
  go_enter Try.func70, Try.ntmps70
  go_wp2_with fail
  rw [HW.out]
  clear HW
  refine (HO _).out.mono ?_
  rintro e w2 ⟨rfl, hb2⟩
  have a2 := A1.out.keep hb2
  have c0 := a2.fpc0
  have c1 := a2.fpc1
  have c2 := a2.fpc2
  have c3 := a2.fpc3
  have c4 := a2.fpc4
  have c5 := a2.fpc5
  have hp := a2.lt
  have Z2 := Lib.hid (Z1.out.keep hb2)
  have HB2 := Lib.hid (below_then HB1.out hb2)
  clear a2 hb2 A1 Z1 HB1
  go_wp2_with fail
  refine (HP _).out.mono ?_
  rintro e w5 ⟨rfl, hb5⟩
  have Z3 := Lib.hid (Z2.out.keep (below_alloc w2 (.cells #[.int .u64 13402431016077863593, .int .u64 2210141511517208575, .int .u64 7435674573564081700, .int .u64 7239337960414712511, .int .u64 5412103778470702295, .int .u64 1873798617647539866] 24)))
  have HB3 := Lib.hid (below_then HB2.out (below_alloc w2 (.cells #[.int .u64 13402431016077863593, .int .u64 2210141511517208575, .int .u64 7435674573564081700, .int .u64 7239337960414712511, .int .u64 5412103778470702295, .int .u64 1873798617647539866] 24)))
  have ZE := Z3.out.keep hb5
  have m0 := ZE.fpc0
  have m1 := ZE.fpc1
  have m2 := ZE.fpc2
  have m3 := ZE.fpc3
  have m4 := ZE.fpc4
  have m5 := ZE.fpc5
  have q0 := ZE.frozen 0
  have q1 := ZE.frozen 1
  have q2 := ZE.frozen 2
  have q3 := ZE.frozen 3
  have q4 := ZE.frozen 4
  have q5 := ZE.frozen 5
  have HBE := Lib.hid (below_then HB3.out hb5)
  clear hb5 ZE
  go_wp2
  refine bodyPost_ret (v := fpV v) (by simp [results, Try.results70, go_sem, m0, m1, m2, m3, m4, m5]) rfl ⟨rfl, ?_⟩
  exact fp_below HBE.out (by omega) _ _ _ _ _ _
end Go.Proofs.Ytmhieifjmgcbkaa

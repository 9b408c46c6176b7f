/- What is proved here: contracts of fp.modulus, square, number, Right, lessModulus and Clean. -/
import Derived.Test.YtkkmekdhejhapaaNumFp
import Derived.Test.YtkkmekdhejhapaaMontFns
import Derived.Test.YtkkmekdhejhapaaPrime
import Derived.BigQuiet
import Derived.Deep.CutBlock
namespace Go.Proofs.Ytkkmekdhejhapaa
open Go.RowKit
theorem fpM_lt : pN < fpB := by decide +kernel
theorem fpM_pos : 0 < pN := by decide +kernel
theorem fpM_odd : pN % 2 = 1 := by decide +kernel
theorem fpM_two : pN + pN < fpB := by decide +kernel
theorem fpM_mod (a : Nat) : a % pN < pN := Nat.mod_lt _ fpM_pos
theorem fpval_M : val (row 6 pN) = pN := fpval fpM_lt
theorem fpM_lit : fpV pN = .agg #[.int .u64 13402431016077863595, .int .u64 2210141511517208575, .int .u64 7435674573564081700, .int .u64 7239337960414712511, .int .u64 5412103778470702295, .int .u64 1873798617647539866] := by
  show Value.agg #[.int .u64 ((lb pN 0 : Nat) : Int), .int .u64 ((lb pN 1 : Nat) : Int), .int .u64 ((lb pN 2 : Nat) : Int), .int .u64 ((lb pN 3 : Nat) : Int), .int .u64 ((lb pN 4 : Nat) : Int), .int .u64 ((lb pN 5 : Nat) : Int)] = _
  rw [show lb pN 0 = 13402431016077863595 by decide +kernel, show lb pN 1 = 2210141511517208575 by decide +kernel, show lb pN 2 = 7435674573564081700 by decide +kernel, show lb pN 3 = 7239337960414712511 by decide +kernel, show lb pN 4 = 5412103778470702295 by decide +kernel, show lb pN 5 = 1873798617647539866 by decide +kernel]
  rfl
def fpSq : Nat := 2708263910654730174793787626328176511836455197166317677006154293982164122222515399004018013397331347120527951271750
theorem fpSq_lt : fpSq < pN := by decide +kernel
theorem fpSq_ltB : fpSq < fpB := Nat.lt_trans fpSq_lt fpM_lt
theorem fpSq_eq : fpSq = 2 ^ (64 * 6) * 2 ^ (64 * 6) % pN := by decide +kernel
theorem fpSq_lit : fpV fpSq = .agg #[.int .u64 17644856173732828998, .int .u64 754043588434789617, .int .u64 10224657059481499349, .int .u64 7488229067341005760, .int .u64 11130996698012816685, .int .u64 1267921511277847466] := by
  show Value.agg #[.int .u64 ((lb fpSq 0 : Nat) : Int), .int .u64 ((lb fpSq 1 : Nat) : Int), .int .u64 ((lb fpSq 2 : Nat) : Int), .int .u64 ((lb fpSq 3 : Nat) : Int), .int .u64 ((lb fpSq 4 : Nat) : Int), .int .u64 ((lb fpSq 5 : Nat) : Int)] = _
  rw [show lb fpSq 0 = 17644856173732828998 by decide +kernel, show lb fpSq 1 = 754043588434789617 by decide +kernel, show lb fpSq 2 = 10224657059481499349 by decide +kernel, show lb fpSq 3 = 7488229067341005760 by decide +kernel, show lb fpSq 4 = 11130996698012816685 by decide +kernel, show lb fpSq 5 = 1267921511277847466 by decide +kernel]
  rfl
theorem fpmodulus_v (w : World) : Calls Try.prog 31 #[] w (Is (fpV pN) w) := by
  rw [fpM_lit]
  go_enter Try.func31, Try.ntmps31
  go_wp2
  refine bodyPost_ret (v := .agg #[.int .u64 13402431016077863595, .int .u64 2210141511517208575, .int .u64 7435674573564081700, .int .u64 7239337960414712511, .int .u64 5412103778470702295, .int .u64 1873798617647539866]) (by simp [results, Try.results31, go_sem]) rfl ⟨rfl, below_alloc w _⟩
theorem fpsquare_v (w : World) : Calls Try.prog 53 #[] w (Is (fpV fpSq) w) := by
  rw [fpSq_lit]
  go_enter Try.func53, Try.ntmps53
  go_wp2
  refine bodyPost_ret (v := .agg #[.int .u64 17644856173732828998, .int .u64 754043588434789617, .int .u64 10224657059481499349, .int .u64 7488229067341005760, .int .u64 11130996698012816685, .int .u64 1267921511277847466]) (by simp [results, Try.results53, go_sem]) rfl ⟨rfl, below_alloc w _⟩
set_option maxRecDepth 20000 in
set_option maxHeartbeats 1000000 in
theorem fpnumber_v (a : Option Addr) (N c v : Nat) (w : World) (hN : N = 6) (hv : View w a N (row 6 v)) :
    Calls Try.prog 55 #[.slice a N c] w (Is (fpV v) w) := by
  obtain ⟨w2, hw2, a1, a2, hb0, hsz⟩ := fp_lay_zz 26 w
  have HV := Lib.hid (hv.below (Nat.le_refl _) hb0)
  have A1 := Lib.hid a1
  have A2 := Lib.hid a2
  have HB0 := Lib.hid hb0
  have HN := Lib.hid hN
  have HK := Lib.hid (show 1 ≤ 6 by decide)
  have HL := Lib.hid (length_row 6 0)
  subst hw2
  clear a1 a2 hb0 hv hN hsz
  go_enter Try.func55, Try.ntmps55
  go_wp2_with (with_reducible refine wpList_copy_arr _ rfl (.tmp 4) (.tmp 5) rfl 26 (w.heap.size + 1) N 6 _ (row 6 0) (row 6 v) _ _ rfl rfl HN.out A2.out HL.out HV.out HK.out ?_; intro w3 ho3 hb3; have c0 := ho3.fpc0; have c1 := ho3.fpc1; have c2 := ho3.fpc2; have c3 := ho3.fpc3; have c4 := ho3.fpc4; have c5 := ho3.fpc5; have a3 := A1.out.below (Nat.lt_succ_self _) hb3; have d0 := a3.fpc0; have d1 := a3.fpc1; have d2 := a3.fpc2; have d3 := a3.fpc3; have d4 := a3.fpc4; have d5 := a3.fpc5; have f0 := a3.frozen 0; have f1 := a3.frozen 1; have f2 := a3.frozen 2; have f3 := a3.frozen 3; have f4 := a3.frozen 4; have f5 := a3.frozen 5; have HB3 := Lib.hid (HB0.out.trans (hb3.mono (Nat.le_succ _))); clear ho3 hb3 a3)
  go_wp2
  refine bodyPost_ret (v := fpV v) (by simp [results, Try.results55, go_sem, d0, d1, d2, d3, d4, d5]) rfl ⟨rfl, ?_⟩
  exact fp_below HB3.out (Nat.le_refl _) _ _ _ _ _ _
theorem fpCmp_lt (a : Nat) (ha : a < fpB) : cmpI (val (row 6 a)) (val (row 6 pN)) = cmpI a pN := by rw [fpval ha, fpval_M]
theorem fpCmpM (a : Nat) : decide (cmpI a pN < 0) = decide (a < pN) := by
  unfold cmpI
  by_cases h : a < pN
  · simp [h]
  · by_cases h' : pN < a <;> simp [h, h']
set_option maxRecDepth 20000 in
set_option maxHeartbeats 1000000 in
theorem fpRight_v (a : Nat) (w : World) (ha : a < fpB) (r : Bool) (hr : r = decide (a < pN)) :
    Calls Try.prog 15 #[fpV a] w (Is (.bool r) w) := by
  obtain ⟨w1, hw1, a1, hb1, hs1⟩ := fp_lay_v 26 w a
  have HW := Lib.hid hw1
  have HB1 := Lib.hid hb1
  have A1 := Lib.hid a1
  have HC := Lib.hid (fpCmp_lt a ha)
  have HR := Lib.hid (hr.trans (fpCmpM a).symm)
  clear hw1 hb1 a1 hr hs1 ha
  go_enter Try.func15, Try.ntmps15
  go_wp2_with fail
  rw [HW.out]
  refine (fpmodulus_v _).mono ?_
  rintro e w2 ⟨rfl, hb2⟩
  obtain ⟨w3, hw3, a3, hb3, hs3⟩ := fp_lay_v 26 w2 pN
  have HW3 := Lib.hid hw3
  have V1 := Lib.hid ((A1.out.keep hb2).keep hb3).vrow
  have V3 := Lib.hid a3.vrow
  have HB3 := Lib.hid (below_then HB1.out (below_then hb2 hb3))
  clear HW A1 HB1 hb2 a3 hb3 hs3 hw3
  go_wp2_with fail
  rw [HW3.out]
  clear HW3
  obtain ⟨r', hr', hd⟩ : ∃ r' : Int, r' = cmpI (val (row 6 a)) (val (row 6 pN)) ∧ decide (r' < 0) = r := ⟨_, rfl, by rw [HC.out, HR.out]⟩
  have HR' := Lib.hid hr'
  clear hr' HC HR
  go_quiet ((go_at_call 32; exact Calls.quiet_of_same ((cmp_short _ 6 6 _ _ 6 6 _ _ (by decide) (by decide) (by decide) (by decide) (V1.out.drewN _) (V3.out.drewN _) (by decide) (by decide) HR'.out).mono fun _ _ h => ⟨h.1, h.2.symm⟩)))
  go_wp2
  go_ret
  exact ⟨by first | rfl | rw [hd], below_drewN HB3.out _⟩
theorem fplessM {a : Nat} (h : pN ≤ a) (ha : a < fpB) : row 6 (val (row 6 a) + 2 ^ (64 * 6) - val (row 6 pN)) = row 6 (a - pN) := by
  rw [fpval ha, fpval_M, row_sub h]
set_option maxRecDepth 20000 in
set_option maxHeartbeats 1000000 in
theorem fpless_v (a : Nat) (w : World) (ha : a < fpB) (h : pN ≤ a) (v : Nat) (hv : v = a - pN) :
    Calls Try.prog 74 #[fpV a] w (Is (fpV v) w) := by
  obtain ⟨w1, hw1, a1, z1, hb1, hs1⟩ := fp_lay_vz 26 w a
  have HW := Lib.hid hw1
  have HB1 := Lib.hid hb1
  have A1 := Lib.hid a1
  have Z1 := Lib.hid z1
  have HR := Lib.hid (fplessM h ha)
  have HV := Lib.hid hv
  clear hw1 hb1 a1 z1 hs1 ha h hv
  go_enter Try.func74, Try.ntmps74
  go_wp2_with fail
  rw [HW.out]
  refine (fpmodulus_v _).mono ?_
  rintro e w2 ⟨rfl, hb2⟩
  obtain ⟨w3, hw3, a3, hb3, hs3⟩ := fp_lay_v 26 w2 pN
  have HW3 := Lib.hid hw3
  have V1 := Lib.hid ((A1.out.keep hb2).keep hb3).vrow
  have Z3 := Lib.hid ((Z1.out.keep hb2).keep hb3)
  have V3 := Lib.hid a3.vrow
  have HB3 := Lib.hid (below_then HB1.out (below_then hb2 hb3))
  clear HW A1 HB1 hb2 a3 hb3 hs3 hw3 Z1
  go_wp2_with fail
  rw [HW3.out]
  clear HW3
  go_region_with (go_at_call 72; refine (sub_short _ 6 6 _ _ 6 6 _ _ (by decide) (by decide) (by decide) (by decide) V1.out.drew V3.out.drew (by decide) (by decide)).mono ?_; rintro e w4 ⟨g, rfl, ho, hg, hb4⟩; have hb4' : Below w3.heap.size w3 w4 := (Below.refl w3.heap.size w3).drew.trans hb4; rw [show max 6 6 = 6 from rfl, HR.out, ← HV.out] at ho; have V4 := Lib.hid ho.vrow; have Z4 := Lib.hid (Z3.out.keep hb4'); have HB4 := Lib.hid (below_then HB3.out hb4'); clear ho hg hb4 hb4')
  all_goals
    go_wp2_with fail
    refine (fpnumber_v _ 6 6 v _ rfl V4.out).mono ?_
    rintro e w5 ⟨rfl, hb5⟩
    have Z5 := Z4.out.keep hb5
    have m0 := Z5.fpc0
    have m1 := Z5.fpc1
    have m2 := Z5.fpc2
    have m3 := Z5.fpc3
    have m4 := Z5.fpc4
    have m5 := Z5.fpc5
    have q0 := Z5.frozen 0
    have q1 := Z5.frozen 1
    have q2 := Z5.frozen 2
    have q3 := Z5.frozen 3
    have q4 := Z5.frozen 4
    have q5 := Z5.frozen 5
    have HB5 := Lib.hid (below_then HB4.out hb5)
    clear hb5 Z5
    go_wp2
    refine bodyPost_ret (v := fpV v) (by simp [results, Try.results74, go_sem, m0, m1, m2, m3, m4, m5]) rfl ⟨rfl, ?_⟩
    exact fp_below HB5.out (by omega) _ _ _ _ _ _
set_option maxRecDepth 20000 in
set_option maxHeartbeats 4000000 in
theorem fpClean_v (a : Nat) (w : World) (ha : a < fpB) (v : Nat) (hv : v = a % pN) :
    Calls Try.prog 52 #[fpV a] w (Is (fpV v) w) := by
  go_enter Try.func52, Try.ntmps52
  go_wp2_with fail
  obtain ⟨w2, hw2, a1, a2, hb0, hsz⟩ := fp_lay_vz 26 w a
  rw [hw2]
  have HA := Lib.hid ha
  have HV := Lib.hid hv
  have A1 := Lib.hid a1
  have A2 := Lib.hid a2
  have HB0 := Lib.hid hb0
  clear hw2 ha hv a1 a2 hb0 hsz
  go_loopg [] a (fun V wr => V < fpB ∧ V % pN = a % pN ∧ Arr 26 wr w.heap.size (row 6 V) ∧ Arr 26 wr (w.heap.size + 1) (row 6 0) ∧ Below w.heap.size w wr)
  case atStart => exact ⟨HA.out, rfl, A1.out, A2.out, HB0.out⟩
  case round =>
    obtain ⟨hlt, hm, ha, hr, hbl⟩ := hrel
    clear A1 A2 HA
    have c0 := ha.fpc0
    have c1 := ha.fpc1
    have c2 := ha.fpc2
    have c3 := ha.fpc3
    have c4 := ha.fpc4
    have c5 := ha.fpc5
    have hp := ha.lt
    have HM := Lib.hid hm
    have HA := Lib.hid ha
    have HR := Lib.hid hr
    have HB := Lib.hid hbl
    have HL := Lib.hid hlt
    clear hm ha hr hbl hlt
    go_wp2_with fail
    by_cases h : gk < pN
    · refine (fpRight_v gk _ HL.out true (decide_eq_true h).symm).mono ?_
      rintro e y2 ⟨rfl, hb2⟩
      have HA2 := HA.out.keep hb2
      have HR2 := HR.out.keep hb2
      have d0 := HA2.fpc0
      have d1 := HA2.fpc1
      have d2 := HA2.fpc2
      have d3 := HA2.fpc3
      have d4 := HA2.fpc4
      have d5 := HA2.fpc5
      have e0 := HR2.fpc0
      have e1 := HR2.fpc1
      have e2 := HR2.fpc2
      have e3 := HR2.fpc3
      have e4 := HR2.fpc4
      have e5 := HR2.fpc5
      have f0 := HR2.frozen 0
      have f1 := HR2.frozen 1
      have f2 := HR2.frozen 2
      have f3 := HR2.frozen 3
      have f4 := HR2.frozen 4
      have f5 := HR2.frozen 5
      have HE := Lib.hid (show v = gk from by rw [HV.out, ← HM.out, Nat.mod_eq_of_lt h])
      have HB3 := Lib.hid (below_then HB.out hb2)
      clear h HA2 HR2 hb2 c0 c1 c2 c3 c4 c5
      go_wp2
      refine bodyPost_ret (v := fpV gk) (by simp [results, Try.results52, go_sem, e0, e1, e2, e3, e4, e5]) rfl ⟨by rw [HE.out], ?_⟩
      exact fp_below HB3.out (by omega) _ _ _ _ _ _
    · refine (fpRight_v gk _ HL.out false (decide_eq_false h).symm).mono ?_
      rintro e y2 ⟨rfl, hb2⟩
      have HA2 := HA.out.keep hb2
      have HR2 := Lib.hid (HR.out.keep hb2)
      have HB2 := Lib.hid (below_then HB.out hb2)
      have HN := Lib.hid (show pN ≤ gk by omega)
      have d0 := HA2.fpc0
      have d1 := HA2.fpc1
      have d2 := HA2.fpc2
      have d3 := HA2.fpc3
      have d4 := HA2.fpc4
      have d5 := HA2.fpc5
      have A3 := Lib.hid HA2
      clear h HA2 hb2 c0 c1 c2 c3 c4 c5
      go_wp2_with fail
      obtain ⟨x, hx⟩ : ∃ x, x = gk - pN := ⟨_, rfl⟩
      refine (fpless_v gk _ HL.out HN.out x hx).mono ?_
      rintro e y3 ⟨rfl, hb3⟩
      have HX := Lib.hid hx
      have HA4 := A3.out.keep hb3
      have k0 := HA4.fpc0
      have k1 := HA4.fpc1
      have k2 := HA4.fpc2
      have k3 := HA4.fpc3
      have k4 := HA4.fpc4
      have k5 := HA4.fpc5
      have q0 := HA4.frozen 0
      have q1 := HA4.frozen 1
      have q2 := HA4.frozen 2
      have q3 := HA4.frozen 3
      have q4 := HA4.frozen 4
      have q5 := HA4.frozen 5
      have A4 := Lib.hid HA4
      have R4 := Lib.hid (HR2.out.keep hb3)
      have HB4 := Lib.hid (below_then HB2.out hb3)
      clear hx HA4 hb3 d0 d1 d2 d3 d4 d5
      go_wp2
      go_roundg (gk - pN)
      case measure => exact Nat.sub_lt (Nat.lt_of_lt_of_le fpM_pos HN.out) fpM_pos
      case rel =>
        rw [← HX.out]
        exact ⟨by have := HL.out; have := HX.out; omega, by rw [HX.out, ← HM.out, ← Nat.mod_eq_sub_mod HN.out], A4.out.fpstore x, R4.out.fpother (by omega) _ _ _ _ _ _, fp_below HB4.out (Nat.le_refl _) _ _ _ _ _ _⟩
end Go.Proofs.Ytkkmekdhejhapaa

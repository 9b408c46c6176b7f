/- What is proved here: contracts of fr.order, square, number, Right, lessOrder and Clean. -/
import Derived.Test.YtkkmekdhejhapaaNumFr
import Derived.Test.YtkkmekdhejhapaaMontFns
import Derived.Test.YtkkmekdhejhapaaPrime
import Derived.BigQuiet
import Derived.Deep.CutBlock
namespace Go.Proofs.Ytkkmekdhejhapaa
open Go.RowKit
theorem frM_lt : rN < frB := by decide +kernel
theorem frM_pos : 0 < rN := by decide +kernel
theorem frM_two : rN + rN < frB := by decide +kernel
theorem frM_mod (a : Nat) : a % rN < rN := Nat.mod_lt _ frM_pos
theorem frM_modB (a : Nat) : a % rN < frB := Nat.lt_trans (frM_mod a) frM_lt
theorem frval_M : val (row 4 rN) = rN := frval frM_lt
theorem frM_lit : frV rN = .agg #[.int .u64 18446744069414584321, .int .u64 6034159408538082302, .int .u64 3691218898639771653, .int .u64 8353516859464449352] := by
  show Value.agg #[.int .u64 ((lb rN 0 : Nat) : Int), .int .u64 ((lb rN 1 : Nat) : Int), .int .u64 ((lb rN 2 : Nat) : Int), .int .u64 ((lb rN 3 : Nat) : Int)] = _
  rw [show lb rN 0 = 18446744069414584321 by decide +kernel, show lb rN 1 = 6034159408538082302 by decide +kernel, show lb rN 2 = 3691218898639771653 by decide +kernel, show lb rN 3 = 8353516859464449352 by decide +kernel]
  rfl
theorem frorder_v (w : World) : Calls Try.prog 73 #[] w (Is (frV rN) w) := by
  rw [frM_lit]
  go_enter Try.func73, Try.ntmps73
  go_wp2
  refine bodyPost_ret (v := .agg #[.int .u64 18446744069414584321, .int .u64 6034159408538082302, .int .u64 3691218898639771653, .int .u64 8353516859464449352]) (by simp [results, Try.results73, go_sem]) rfl ⟨rfl, below_alloc w _⟩
set_option maxRecDepth 20000 in
set_option maxHeartbeats 1000000 in
theorem frnumber_v (a : Option Addr) (N c v : Nat) (w : World) (hN : N = 4) (hv : View w a N (row 4 v)) :
    Calls Try.prog 30 #[.slice a N c] w (Is (frV v) w) := by
  obtain ⟨w2, hw2, a1, a2, hb0, hsz⟩ := fr_lay_zz 38 w
  have HV := Lib.hid (hv.below (Nat.le_refl _) hb0)
  have A1 := Lib.hid a1
  have A2 := Lib.hid a2
  have HB0 := Lib.hid hb0
  have HN := Lib.hid hN
  have HK := Lib.hid (show 1 ≤ 4 by decide)
  have HL := Lib.hid (length_row 4 0)
  subst hw2
  clear a1 a2 hb0 hv hN hsz
  go_enter Try.func30, Try.ntmps30
  go_wp2_with (with_reducible refine wpList_copy_arr _ rfl (.tmp 4) (.tmp 5) rfl 38 (w.heap.size + 1) N 4 _ (row 4 0) (row 4 v) _ _ rfl rfl HN.out A2.out HL.out HV.out HK.out ?_; intro w3 ho3 hb3; have c0 := ho3.frc0; have c1 := ho3.frc1; have c2 := ho3.frc2; have c3 := ho3.frc3; have a3 := A1.out.below (Nat.lt_succ_self _) hb3; have d0 := a3.frc0; have d1 := a3.frc1; have d2 := a3.frc2; have d3 := a3.frc3; have f0 := a3.frozen 0; have f1 := a3.frozen 1; have f2 := a3.frozen 2; have f3 := a3.frozen 3; have HB3 := Lib.hid (HB0.out.trans (hb3.mono (Nat.le_succ _))); clear ho3 hb3 a3)
  go_wp2
  refine bodyPost_ret (v := frV v) (by simp [results, Try.results30, go_sem, d0, d1, d2, d3]) rfl ⟨rfl, ?_⟩
  exact fr_below HB3.out (Nat.le_refl _) _ _ _ _
theorem frCmp_lt (a : Nat) (ha : a < frB) : cmpI (val (row 4 a)) (val (row 4 rN)) = cmpI a rN := by rw [frval ha, frval_M]
theorem frCmpM (a : Nat) : decide (cmpI a rN < 0) = decide (a < rN) := by
  unfold cmpI
  by_cases h : a < rN
  · simp [h]
  · by_cases h' : rN < a <;> simp [h, h']
set_option maxRecDepth 20000 in
set_option maxHeartbeats 1000000 in
theorem frRight_v (a : Nat) (w : World) (ha : a < frB) (r : Bool) (hr : r = decide (a < rN)) :
    Calls Try.prog 47 #[frV a] w (Is (.bool r) w) := by
  obtain ⟨w1, hw1, a1, hb1, hs1⟩ := fr_lay_v 38 w a
  have HW := Lib.hid hw1
  have HB1 := Lib.hid hb1
  have A1 := Lib.hid a1
  have HC := Lib.hid (frCmp_lt a ha)
  have HR := Lib.hid (hr.trans (frCmpM a).symm)
  clear hw1 hb1 a1 hr hs1 ha
  go_enter Try.func47, Try.ntmps47
  go_wp2_with fail
  rw [HW.out]
  refine (frorder_v _).mono ?_
  rintro e w2 ⟨rfl, hb2⟩
  obtain ⟨w3, hw3, a3, hb3, hs3⟩ := fr_lay_v 38 w2 rN
  have HW3 := Lib.hid hw3
  have V1 := Lib.hid ((A1.out.keep hb2).keep hb3).vrow
  have V3 := Lib.hid a3.vrow
  have HB3 := Lib.hid (below_then HB1.out (below_then hb2 hb3))
  clear HW A1 HB1 hb2 a3 hb3 hs3 hw3
  go_wp2_with fail
  rw [HW3.out]
  clear HW3
  obtain ⟨r', hr', hd⟩ : ∃ r' : Int, r' = cmpI (val (row 4 a)) (val (row 4 rN)) ∧ decide (r' < 0) = r := ⟨_, rfl, by rw [HC.out, HR.out]⟩
  have HR' := Lib.hid hr'
  clear hr' HC HR
  go_quiet ((go_at_call 32; exact Calls.quiet_of_same ((cmp_short _ 4 4 _ _ 4 4 _ _ (by decide) (by decide) (by decide) (by decide) (V1.out.drewN _) (V3.out.drewN _) (by decide) (by decide) HR'.out).mono fun _ _ h => ⟨h.1, h.2.symm⟩)))
  go_wp2
  go_ret
  exact ⟨by first | rfl | rw [hd], below_drewN HB3.out _⟩
theorem frlessM {a : Nat} (h : rN ≤ a) (ha : a < frB) : row 4 (val (row 4 a) + 2 ^ (64 * 4) - val (row 4 rN)) = row 4 (a - rN) := by
  rw [frval ha, frval_M, row_sub h]
set_option maxRecDepth 20000 in
set_option maxHeartbeats 1000000 in
theorem frless_v (a : Nat) (w : World) (ha : a < frB) (h : rN ≤ a) (v : Nat) (hv : v = a - rN) :
    Calls Try.prog 48 #[frV a] w (Is (frV v) w) := by
  obtain ⟨w1, hw1, a1, z1, hb1, hs1⟩ := fr_lay_vz 38 w a
  have HW := Lib.hid hw1
  have HB1 := Lib.hid hb1
  have A1 := Lib.hid a1
  have Z1 := Lib.hid z1
  have HR := Lib.hid (frlessM h ha)
  have HV := Lib.hid hv
  clear hw1 hb1 a1 z1 hs1 ha h hv
  go_enter Try.func48, Try.ntmps48
  go_wp2_with fail
  rw [HW.out]
  refine (frorder_v _).mono ?_
  rintro e w2 ⟨rfl, hb2⟩
  obtain ⟨w3, hw3, a3, hb3, hs3⟩ := fr_lay_v 38 w2 rN
  have HW3 := Lib.hid hw3
  have V1 := Lib.hid ((A1.out.keep hb2).keep hb3).vrow
  have Z3 := Lib.hid ((Z1.out.keep hb2).keep hb3)
  have V3 := Lib.hid a3.vrow
  have HB3 := Lib.hid (below_then HB1.out (below_then hb2 hb3))
  clear HW A1 HB1 hb2 a3 hb3 hs3 hw3 Z1
  go_wp2_with fail
  rw [HW3.out]
  clear HW3
  go_region_with (go_at_call 72; refine (sub_short _ 4 4 _ _ 4 4 _ _ (by decide) (by decide) (by decide) (by decide) V1.out.drew V3.out.drew (by decide) (by decide)).mono ?_; rintro e w4 ⟨g, rfl, ho, hg, hb4⟩; have hb4' : Below w3.heap.size w3 w4 := (Below.refl w3.heap.size w3).drew.trans hb4; rw [show max 4 4 = 4 from rfl, HR.out, ← HV.out] at ho; have V4 := Lib.hid ho.vrow; have Z4 := Lib.hid (Z3.out.keep hb4'); have HB4 := Lib.hid (below_then HB3.out hb4'); clear ho hg hb4 hb4')
  all_goals
    go_wp2_with fail
    refine (frnumber_v _ 4 4 v _ rfl V4.out).mono ?_
    rintro e w5 ⟨rfl, hb5⟩
    have Z5 := Z4.out.keep hb5
    have m0 := Z5.frc0
    have m1 := Z5.frc1
    have m2 := Z5.frc2
    have m3 := Z5.frc3
    have q0 := Z5.frozen 0
    have q1 := Z5.frozen 1
    have q2 := Z5.frozen 2
    have q3 := Z5.frozen 3
    have HB5 := Lib.hid (below_then HB4.out hb5)
    clear hb5 Z5
    go_wp2
    refine bodyPost_ret (v := frV v) (by simp [results, Try.results48, go_sem, m0, m1, m2, m3]) rfl ⟨rfl, ?_⟩
    exact fr_below HB5.out (by omega) _ _ _ _
set_option maxRecDepth 20000 in
set_option maxHeartbeats 4000000 in
theorem frClean_v (a : Nat) (w : World) (ha : a < frB) (v : Nat) (hv : v = a % rN) :
    Calls Try.prog 28 #[frV a] w (Is (frV v) w) := by
  go_enter Try.func28, Try.ntmps28
  go_wp2_with fail
  obtain ⟨w2, hw2, a1, a2, hb0, hsz⟩ := fr_lay_vz 38 w a
  rw [hw2]
  have HA := Lib.hid ha
  have HV := Lib.hid hv
  have A1 := Lib.hid a1
  have A2 := Lib.hid a2
  have HB0 := Lib.hid hb0
  clear hw2 ha hv a1 a2 hb0 hsz
  go_loopg [] a (fun V wr => V < frB ∧ V % rN = a % rN ∧ Arr 38 wr w.heap.size (row 4 V) ∧ Arr 38 wr (w.heap.size + 1) (row 4 0) ∧ Below w.heap.size w wr)
  case atStart => exact ⟨HA.out, rfl, A1.out, A2.out, HB0.out⟩
  case round =>
    obtain ⟨hlt, hm, ha, hr, hbl⟩ := hrel
    clear A1 A2 HA
    have c0 := ha.frc0
    have c1 := ha.frc1
    have c2 := ha.frc2
    have c3 := ha.frc3
    have hp := ha.lt
    have HM := Lib.hid hm
    have HA := Lib.hid ha
    have HR := Lib.hid hr
    have HB := Lib.hid hbl
    have HL := Lib.hid hlt
    clear hm ha hr hbl hlt
    go_wp2_with fail
    by_cases h : gk < rN
    · refine (frRight_v gk _ HL.out true (decide_eq_true h).symm).mono ?_
      rintro e y2 ⟨rfl, hb2⟩
      have HA2 := HA.out.keep hb2
      have HR2 := HR.out.keep hb2
      have d0 := HA2.frc0
      have d1 := HA2.frc1
      have d2 := HA2.frc2
      have d3 := HA2.frc3
      have e0 := HR2.frc0
      have e1 := HR2.frc1
      have e2 := HR2.frc2
      have e3 := HR2.frc3
      have f0 := HR2.frozen 0
      have f1 := HR2.frozen 1
      have f2 := HR2.frozen 2
      have f3 := HR2.frozen 3
      have HE := Lib.hid (show v = gk from by rw [HV.out, ← HM.out, Nat.mod_eq_of_lt h])
      have HB3 := Lib.hid (below_then HB.out hb2)
      clear h HA2 HR2 hb2 c0 c1 c2 c3
      go_wp2
      refine bodyPost_ret (v := frV gk) (by simp [results, Try.results28, go_sem, e0, e1, e2, e3]) rfl ⟨by rw [HE.out], ?_⟩
      exact fr_below HB3.out (by omega) _ _ _ _
    · refine (frRight_v gk _ HL.out false (decide_eq_false h).symm).mono ?_
      rintro e y2 ⟨rfl, hb2⟩
      have HA2 := HA.out.keep hb2
      have HR2 := Lib.hid (HR.out.keep hb2)
      have HB2 := Lib.hid (below_then HB.out hb2)
      have HN := Lib.hid (show rN ≤ gk by omega)
      have d0 := HA2.frc0
      have d1 := HA2.frc1
      have d2 := HA2.frc2
      have d3 := HA2.frc3
      have A3 := Lib.hid HA2
      clear h HA2 hb2 c0 c1 c2 c3
      go_wp2_with fail
      obtain ⟨x, hx⟩ : ∃ x, x = gk - rN := ⟨_, rfl⟩
      refine (frless_v gk _ HL.out HN.out x hx).mono ?_
      rintro e y3 ⟨rfl, hb3⟩
      have HX := Lib.hid hx
      have HA4 := A3.out.keep hb3
      have k0 := HA4.frc0
      have k1 := HA4.frc1
      have k2 := HA4.frc2
      have k3 := HA4.frc3
      have q0 := HA4.frozen 0
      have q1 := HA4.frozen 1
      have q2 := HA4.frozen 2
      have q3 := HA4.frozen 3
      have A4 := Lib.hid HA4
      have R4 := Lib.hid (HR2.out.keep hb3)
      have HB4 := Lib.hid (below_then HB2.out hb3)
      clear hx HA4 hb3 d0 d1 d2 d3
      go_wp2
      go_roundg (gk - rN)
      case measure => exact Nat.sub_lt (Nat.lt_of_lt_of_le frM_pos HN.out) frM_pos
      case rel =>
        rw [← HX.out]
        exact ⟨by have := HL.out; have := HX.out; omega, by rw [HX.out, ← HM.out, ← Nat.mod_eq_sub_mod HN.out], A4.out.frstore x, R4.out.frother (by omega) _ _ _ _, fr_below HB4.out (Nat.le_refl _) _ _ _ _⟩
end Go.Proofs.Ytkkmekdhejhapaa

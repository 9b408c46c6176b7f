/- What is proved here: what duo.High and duo.Root answer, by numbers; squares of numbers A + B u; package point, the second curve: its struct of functions, which points are let by, and the bytes of points. -/
import Derived.Test.YtkkmekdhejhapaaGreatComp
import Derived.Test.YtkkmekdhejhapaaGreatFpRoot
import Derived.Test.YtkkmekdhejhapaaGreatPtFlag
import Derived.Test.YtkkmekdhejhapaaGreatTwo3
import Derived.Test.YtkkmekdhejhapaaGreatPt11
namespace Go.Proofs.YtkkmekdhejhapaaGreat
section
open Go.RowKit
set_option maxRecDepth 20000
set_option maxHeartbeats 4000000
def dHigh (a b : Nat) : Bool := if pCl b = 0 then pHigh a else pHigh b
theorem duoHigh_z (a b : Nat) (w : World) (ha : a < fpB) (hb : b < fpB) (hz : pCl b = 0) (r : Bool) (hr : r = dHigh a b) :
    Calls Tryz.prog 82 #[nv 6 [a, b]] w (Is (.bool r) w) := by
  go_enter Tryz.func82, Tryz.ntmps82
  refine seq_lit ?_
  refine sn1 (xs := rows 6 [a, b]) (ex_boxn (K := 6) (l := [a, b]) rfl) ?_
  intro w1 N1 hb1
  have HB2 := below_then (brf w) hb1
  refine sva (.bool false) ?_
  refine seq_nil ?_
  refine seq_lit ?_
  refine sv1 (nv 6 [a, b]) (ex_loadn (K := 6) (k := 0) (j := 2) (l := [a, b]) flFp2 rfl N1 rfl _ rfl) ?_
  refine sck HB2 Tryz.call95 (duoClean_v a b _ ha hb) ?_
  intro w3 hb3 HB5
  have A4 := N1.keep hb3
  refine st1 (t := 28) (xs := rows 6 [a, b]) (ys := rows 6 [(pCl a), (pCl b)]) A4 (len_rows rfl) (ex_storen (K := 6) (l := [a, b]) (m := [(pCl a), (pCl b)]) flFp2 rfl rfl A4 rfl) ?_
  intro w6 N6 hst6 hoth6
  have HB7 := hst6 _ _ HB5 (Nat.le_refl _)
  refine seq_nil ?_
  refine wp_seq ?_
  refine seq_lit ?_
  refine sv1 (pq w.heap.size 6) (ex_field faFp2_1 rfl) ?_
  refine sv1 (nv 6 [(pCl b)]) (ex_loadn (K := 6) (k := 1) (j := 1) (l := [(pCl a), (pCl b)]) flFp rfl N6 rfl _ rfl) ?_
  refine sv1 (nv 6 [0]) (ex_zero) ?_
  refine sv1 (.bool true) (ex_eqn (K := 6) (l := [(pCl b)]) (m := [0]) eqFp rfl rfl rfl rfl rfl (fpB_all1 (pCl_B _)) (fpB_all1 zero_B) rfl true (by rw [hz]; rfl)) ?_
  refine seq_nil ?_
  refine wp_cond_true rfl ?_
  refine seq_lit ?_
  refine sv1 (pt w.heap.size) (ex_field faFp2_0 rfl) ?_
  refine sv1 (nv 6 [(pCl a)]) (ex_loadn (K := 6) (k := 0) (j := 1) (l := [(pCl a), (pCl b)]) flFp rfl N6 rfl _ rfl) ?_
  refine sch HB7 (.bool r) (ex_call (vs := [nv 6 [(pCl a)]]) rfl Tryz.call72 rfl) (fpHigh_v (pCl a) _ (pCl_B _) r (by rw [hr]; unfold dHigh; rw [if_pos hz, high_cl])) ?_
  intro w8 hb8 HB10
  refine sva (.bool r) ?_
  refine seq_nil ?_
  exact wp_ret (bodyPost_ret (ret_tmp Tryz.results82 rfl) rfl ⟨rfl, HB10⟩)
theorem duoHigh_n (a b : Nat) (w : World) (ha : a < fpB) (hb : b < fpB) (hz : pCl b ≠ 0) (r : Bool) (hr : r = dHigh a b) :
    Calls Tryz.prog 82 #[nv 6 [a, b]] w (Is (.bool r) w) := by
  go_enter Tryz.func82, Tryz.ntmps82
  refine seq_lit ?_
  refine sn1 (xs := rows 6 [a, b]) (ex_boxn (K := 6) (l := [a, b]) rfl) ?_
  intro w1 N1 hb1
  have HB2 := below_then (brf w) hb1
  refine sva (.bool false) ?_
  refine seq_nil ?_
  refine seq_lit ?_
  refine sv1 (nv 6 [a, b]) (ex_loadn (K := 6) (k := 0) (j := 2) (l := [a, b]) flFp2 rfl N1 rfl _ rfl) ?_
  refine sck HB2 Tryz.call95 (duoClean_v a b _ ha hb) ?_
  intro w3 hb3 HB5
  have A4 := N1.keep hb3
  refine st1 (t := 28) (xs := rows 6 [a, b]) (ys := rows 6 [(pCl a), (pCl b)]) A4 (len_rows rfl) (ex_storen (K := 6) (l := [a, b]) (m := [(pCl a), (pCl b)]) flFp2 rfl rfl A4 rfl) ?_
  intro w6 N6 hst6 hoth6
  have HB7 := hst6 _ _ HB5 (Nat.le_refl _)
  refine seq_nil ?_
  refine wp_seq ?_
  refine seq_lit ?_
  refine sv1 (pq w.heap.size 6) (ex_field faFp2_1 rfl) ?_
  refine sv1 (nv 6 [(pCl b)]) (ex_loadn (K := 6) (k := 1) (j := 1) (l := [(pCl a), (pCl b)]) flFp rfl N6 rfl _ rfl) ?_
  refine sv1 (nv 6 [0]) (ex_zero) ?_
  refine sv1 (.bool false) (ex_eqn (K := 6) (l := [(pCl b)]) (m := [0]) eqFp rfl rfl rfl rfl rfl (fpB_all1 (pCl_B _)) (fpB_all1 zero_B) rfl false (decide_eq_false (fun hq => hz (by injection hq))).symm) ?_
  refine seq_nil ?_
  refine wp_cond_false rfl ?_
  refine wp_skip (then_n ?_)
  refine seq_lit ?_
  refine sv1 (pq w.heap.size 6) (ex_field faFp2_1 rfl) ?_
  refine sv1 (nv 6 [(pCl b)]) (ex_loadn (K := 6) (k := 1) (j := 1) (l := [(pCl a), (pCl b)]) flFp rfl N6 rfl _ rfl) ?_
  refine sch HB7 (.bool r) (ex_call (vs := [nv 6 [(pCl b)]]) rfl Tryz.call72 rfl) (fpHigh_v (pCl b) _ (pCl_B _) r (by rw [hr]; unfold dHigh; rw [if_neg hz, high_cl])) ?_
  intro w8 hb8 HB10
  refine sva (.bool r) ?_
  refine seq_nil ?_
  exact wp_ret (bodyPost_ret (ret_tmp Tryz.results82 rfl) rfl ⟨rfl, HB10⟩)
theorem duoHigh_v (a b : Nat) (w : World) (ha : a < fpB) (hb : b < fpB) (r : Bool) (hr : r = dHigh a b) :
    Calls Tryz.prog 82 #[nv 6 [a, b]] w (Is (.bool r) w) := by
  by_cases hz : pCl b = 0
  · exact duoHigh_z a b w ha hb hz r hr
  · exact duoHigh_n a b w ha hb hz r hr
end

section
open Go.RowKit Cv
set_option maxRecDepth 20000
set_option maxHeartbeats 4000000
def cvS2 : List Seg := [.i .i64 96, .v (.func (.func 80) #[] #[]), .v (.func (.func 81) #[] #[]), .v (.func (.func 82) #[] #[]), .v (.func (.func 83) #[] #[]), .v (.func (.func 84) #[] #[]), .v (.func (.func 21) #[] #[]), .v (.func (.func 85) #[] #[]), .v (.func (.func 86) #[] #[]), .v (.func (.func 17) #[] #[]), .v (.func (.func 13) #[] #[])]
theorem pt2first_v : CI 31 #[] (sv cvS2) := fun w => by
  go_enter Tryz.func31, Tryz.ntmps31
  refine rh1 (brf w) (78) 0 [.i .i64 0, .v (.nilFunc), .v (.nilFunc), .v (.nilFunc), .v (.nilFunc), .v (.nilFunc), .v (.nilFunc), .v (.nilFunc), .v (.nilFunc), .v (.nilFunc), .v (.nilFunc)] [0] (fun γ => [pz (γ 0)]) ?_ ?_
  · exact stpb 0 (fun γ w h => ex_allocs (l := [.i .i64 0, .v (.nilFunc), .v (.nilFunc), .v (.nilFunc), .v (.nilFunc), .v (.nilFunc), .v (.nilFunc), .v (.nilFunc), .v (.nilFunc), .v (.nilFunc), .v (.nilFunc)]) zCv2) .nil
  intro γ1 w1 hb1 A2 le2 HB3
  refine rhs HB3 le2 1 0 cvS2 [1] [sv cvS2] ?_ ?_
  · refine latv (fun γ w h => ex_builds stCv2 (l := cvS2) (vs := [(0, .int .i64 96), (1, .func (.func 80) #[] #[]), (2, .func (.func 81) #[] #[]), (3, .func (.func 82) #[] #[]), (4, .func (.func 83) #[] #[]), (5, .func (.func 84) #[] #[]), (6, .func (.func 21) #[] #[]), (7, .func (.func 85) #[] #[]), (8, .func (.func 86) #[] #[]), (9, .func (.func 17) #[] #[]), (10, .func (.func 13) #[] #[])]) rfl ((fills_cons 0 1 (m := [.i .i64 96]) (z' := [.i .i64 96, .v (.nilFunc), .v (.nilFunc), .v (.nilFunc), .v (.nilFunc), .v (.nilFunc), .v (.nilFunc), .v (.nilFunc), .v (.nilFunc), .v (.nilFunc), .v (.nilFunc)]) rfl (int_cells .i64 96) rfl rfl rfl rfl).trans ((fills_cons 1 1 (m := [.v (.func (.func 80) #[] #[])]) (z' := [.i .i64 96, .v (.func (.func 80) #[] #[]), .v (.nilFunc), .v (.nilFunc), .v (.nilFunc), .v (.nilFunc), .v (.nilFunc), .v (.nilFunc), .v (.nilFunc), .v (.nilFunc), .v (.nilFunc)]) rfl rfl rfl rfl rfl rfl).trans ((fills_cons 2 1 (m := [.v (.func (.func 81) #[] #[])]) (z' := [.i .i64 96, .v (.func (.func 80) #[] #[]), .v (.func (.func 81) #[] #[]), .v (.nilFunc), .v (.nilFunc), .v (.nilFunc), .v (.nilFunc), .v (.nilFunc), .v (.nilFunc), .v (.nilFunc), .v (.nilFunc)]) rfl rfl rfl rfl rfl rfl).trans ((fills_cons 3 1 (m := [.v (.func (.func 82) #[] #[])]) (z' := [.i .i64 96, .v (.func (.func 80) #[] #[]), .v (.func (.func 81) #[] #[]), .v (.func (.func 82) #[] #[]), .v (.nilFunc), .v (.nilFunc), .v (.nilFunc), .v (.nilFunc), .v (.nilFunc), .v (.nilFunc), .v (.nilFunc)]) rfl rfl rfl rfl rfl rfl).trans ((fills_cons 4 1 (m := [.v (.func (.func 83) #[] #[])]) (z' := [.i .i64 96, .v (.func (.func 80) #[] #[]), .v (.func (.func 81) #[] #[]), .v (.func (.func 82) #[] #[]), .v (.func (.func 83) #[] #[]), .v (.nilFunc), .v (.nilFunc), .v (.nilFunc), .v (.nilFunc), .v (.nilFunc), .v (.nilFunc)]) rfl rfl rfl rfl rfl rfl).trans ((fills_cons 5 1 (m := [.v (.func (.func 84) #[] #[])]) (z' := [.i .i64 96, .v (.func (.func 80) #[] #[]), .v (.func (.func 81) #[] #[]), .v (.func (.func 82) #[] #[]), .v (.func (.func 83) #[] #[]), .v (.func (.func 84) #[] #[]), .v (.nilFunc), .v (.nilFunc), .v (.nilFunc), .v (.nilFunc), .v (.nilFunc)]) rfl rfl rfl rfl rfl rfl).trans ((fills_cons 6 1 (m := [.v (.func (.func 21) #[] #[])]) (z' := [.i .i64 96, .v (.func (.func 80) #[] #[]), .v (.func (.func 81) #[] #[]), .v (.func (.func 82) #[] #[]), .v (.func (.func 83) #[] #[]), .v (.func (.func 84) #[] #[]), .v (.func (.func 21) #[] #[]), .v (.nilFunc), .v (.nilFunc), .v (.nilFunc), .v (.nilFunc)]) rfl rfl rfl rfl rfl rfl).trans ((fills_cons 7 1 (m := [.v (.func (.func 85) #[] #[])]) (z' := [.i .i64 96, .v (.func (.func 80) #[] #[]), .v (.func (.func 81) #[] #[]), .v (.func (.func 82) #[] #[]), .v (.func (.func 83) #[] #[]), .v (.func (.func 84) #[] #[]), .v (.func (.func 21) #[] #[]), .v (.func (.func 85) #[] #[]), .v (.nilFunc), .v (.nilFunc), .v (.nilFunc)]) rfl rfl rfl rfl rfl rfl).trans ((fills_cons 8 1 (m := [.v (.func (.func 86) #[] #[])]) (z' := [.i .i64 96, .v (.func (.func 80) #[] #[]), .v (.func (.func 81) #[] #[]), .v (.func (.func 82) #[] #[]), .v (.func (.func 83) #[] #[]), .v (.func (.func 84) #[] #[]), .v (.func (.func 21) #[] #[]), .v (.func (.func 85) #[] #[]), .v (.func (.func 86) #[] #[]), .v (.nilFunc), .v (.nilFunc)]) rfl rfl rfl rfl rfl rfl).trans ((fills_cons 9 1 (m := [.v (.func (.func 17) #[] #[])]) (z' := [.i .i64 96, .v (.func (.func 80) #[] #[]), .v (.func (.func 81) #[] #[]), .v (.func (.func 82) #[] #[]), .v (.func (.func 83) #[] #[]), .v (.func (.func 84) #[] #[]), .v (.func (.func 21) #[] #[]), .v (.func (.func 85) #[] #[]), .v (.func (.func 86) #[] #[]), .v (.func (.func 17) #[] #[]), .v (.nilFunc)]) rfl rfl rfl rfl rfl rfl).trans ((fills_cons 10 1 (m := [.v (.func (.func 13) #[] #[])]) (z' := cvS2) rfl rfl rfl rfl rfl rfl).trans rfl)))))))))))) ?_
    exact latq 0 11 flCv2.2 A2 .nil
  intro w4 w4_ hb4 hs4 HB8
  have A5 := A2.keep hb4.out
  have A7 := hs4.here 0 11 (l' := cvS2) A5 rfl rfl rfl
  exact wpr (ret1 Tryz.results31 (res_sv rfl A7 flCv2 rfl)) HB8
theorem pt2parts_v (x0 : Nat) (x1 : Nat) (y0 : Nat) (y1 : Nat) (i : Bool) : CI 86 #[sv [.n 6 x0, .n 6 x1, .n 6 y0, .n 6 y1, .b i]] (.tuple #[nv 6 [x0, x1], nv 6 [y0, y1], .bool i]) := fun w => by
  go_enter Tryz.func86, Tryz.ntmps86
  refine rh3 (brf w) 30 0 [.n 6 x0, .n 6 x1, .n 6 y0, .n 6 y1, .b i] 28 1 [.n 6 0, .n 6 0] 28 2 [.n 6 0, .n 6 0] [1, 2, 3, 4] (fun γ => [pz (γ 0), pz (γ 1), pz (γ 2), .bool false]) ?_ ?_
  · refine stpb 0 (fun γ w h => ex_boxs (l := [.n 6 x0, .n 6 x1, .n 6 y0, .n 6 y1, .b i]) rfl) ?_
    refine stpb 1 (fun γ w h => ex_allocsn (K := 6) (l := [0, 0]) zFp2) ?_
    refine stpb 2 (fun γ w h => ex_allocsn (K := 6) (l := [0, 0]) zFp2) ?_
    exact stpa .nil
  intro γ1 w1 hb1 A2 A3 A4 _ le3 le4 hn1 HB5
  refine wp_seq (region_m2 (F := fun _ => ⟨#[sv [.n 6 x0, .n 6 x1, .n 6 y0, .n 6 y1, .b i], pz (γ1 0), pz (γ1 1), pz (γ1 2), .bool i, pz (γ1 0), nv 6 [x0, x1], pq (γ1 0) 12, nv 6 [y0, y1], pq (γ1 0) 24, .bool i], []⟩) 6 ((γ1 1)) 0 (segs [.n 6 x0, .n 6 x1]) 7 ((γ1 2)) 0 (segs [.n 6 y0, .n 6 y1]) 0 (fun _ => 0) (fun _ => 0) (fun _ => 0) (fun _ => []) (fun _ => []) [5, 6, 7, 8, 9, 10, 4] (.inl ⟨rfl, by kernel_rfl⟩) (by kernel_rfl) rfl rfl rfl ?_ ?_)
  · refine GSteps.cons (late_step (late_step (gm_valg (fun γ => pz (γ1 0)) rfl (fun _ => rfl) (fun _ => rfl) (fun γ w h => ex_field faG2_0 rfl) rfl) (by kernel_rfl) rfl) (by kernel_rfl) rfl) ?_
    refine GSteps.cons (late_step (late_step (gm_val (v := nv 6 [x0, x1]) rfl (fun _ => rfl) (fun _ => rfl) (fun γ w h => ex_loadsn (K := 6) 0 2 (m := [x0, x1]) flFp2 rfl rfl (A2.keep h.out) rfl rfl) rfl) (by kernel_rfl) rfl) (by kernel_rfl) rfl) ?_
    refine GSteps.cons (late_any2 (v := pq (γ1 0) 12) rfl (fun _ => rfl) (fun _ => rfl) (fun γ w h => ex_field faG2_1 rfl) rfl rfl rfl) ?_
    refine GSteps.cons (late_any2 (v := nv 6 [y0, y1]) rfl (fun _ => rfl) (fun _ => rfl) (fun γ w h => ex_loadsn (K := 6) 2 2 (m := [y0, y1]) flFp2 rfl rfl (h _ _ _ (hn1 0 1 (by decide) (by decide) (by decide)) (hn1 0 2 (by decide) (by decide) (by decide)) A2) rfl rfl) rfl rfl rfl) ?_
    refine GSteps.cons (late_any2 (v := pq (γ1 0) 24) rfl (fun _ => rfl) (fun _ => rfl) (fun γ w h => ex_field faG2_2 rfl) rfl rfl rfl) ?_
    refine GSteps.cons (late_any2 (v := .bool i) rfl (fun _ => rfl) (fun _ => rfl) (fun γ w h => ex_load1 4 (s := .b i) (v := .bool i) sgBool rfl (h _ _ _ (hn1 0 1 (by decide) (by decide) (by decide)) (hn1 0 2 (by decide) (by decide) (by decide)) A2) rfl rfl rfl) rfl rfl rfl) ?_
    refine GSteps.cons (late_step (late_store rfl (fun _ => rfl) (fun γ w h => ex_stores 0 2 (l := [.n 6 0, .n 6 0]) (m := [.n 6 x0, .n 6 x1]) flFp2.2 rfl rfl rfl (nv_cells 6 [x0, x1]) (A3.keep h.out) rfl rfl) rfl) (by kernel_rfl) rfl) ?_
    refine GSteps.cons (late_store2 rfl (fun _ => rfl) (fun γ w w1 h hs => ex_stores 0 2 (l := [.n 6 0, .n 6 0]) (m := [.n 6 y0, .n 6 y1]) flFp2.2 rfl rfl rfl (nv_cells 6 [y0, y1]) (hs.other (Ne.symm (hn1 1 2 (by decide) (by decide) (by decide))) (A4.keep h.out)) rfl rfl) rfl rfl rfl (by kernel_rfl)) ?_
    refine GSteps.cons (late_any2 (v := .bool i) rfl (fun _ => rfl) (fun _ => rfl) (fun γ w h => ex_assign _) rfl rfl rfl) ?_
    exact GSteps.nil
  intro _ w6 w6_ w6__ hb6 _ _ hs6 hs6_
  refine th_r ?_
  have A8 := A3.keep hb6.out
  have A9 := A4.keep hb6.out
  have HB10 := below_then HB5 hb6.out
  have A12 := hs6.here 0 2 (l' := [.n 6 x0, .n 6 x1]) A8 rfl rfl rfl
  have A13 := hs6.other (Ne.symm (hn1 1 2 (by decide) (by decide) (by decide))) A9
  have HB14 := hs6.below HB10 (Nat.le_trans (Nat.le_refl _) le3)
  have A16 := hs6_.other (hn1 1 2 (by decide) (by decide) (by decide)) A12
  have A17 := hs6_.here 0 2 (l' := [.n 6 y0, .n 6 y1]) A13 rfl rfl rfl
  have HB18 := hs6_.below HB14 (Nat.le_trans (Nat.le_refl _) le4)
  exact wpr (ret3 Tryz.results86 (res_nv (K := 6) (l := [x0, x1]) rfl A16 flFp2 rfl) (res_nv (K := 6) (l := [y0, y1]) rfl A17 flFp2 rfl) (res_tmp rfl)) HB18
theorem pt2check_no (x0 : Nat) (x1 : Nat) (y0 : Nat) (y1 : Nat) (i : Bool) (hx0 : x0 < fpB) (hx1 : x1 < fpB) (hy0 : y0 < fpB) (hy1 : y1 < fpB) (h0 : ¬ RawOk2 x0 x1 y0 y1 i) : CI 87 #[sv cvS2, sv [.n 6 x0, .n 6 x1, .n 6 y0, .n 6 y1, .b i]] (.int .i64 30) := fun w => by
  go_enter Tryz.func87, Tryz.ntmps87
  refine rh2 (brf w) (78) 0 cvS2 30 1 [.n 6 x0, .n 6 x1, .n 6 y0, .n 6 y1, .b i] [2, 3, 4] (fun γ => [pz (γ 0), pz (γ 1), .int .i64 0]) ?_ ?_
  · refine stpb 0 (fun γ w h => ex_boxs (l := cvS2) rfl) ?_
    refine stpb 1 (fun γ w h => ex_boxs (l := [.n 6 x0, .n 6 x1, .n 6 y0, .n 6 y1, .b i]) rfl) ?_
    exact stpa .nil
  intro γ1 w1 hb1 A2 A3 _ _ hn1 HB4
  refine wp_seq ?_
  refine rh0 HB4 [5, 6, 7, 8, 9] [pq (γ1 0) 9, .func (.func 17) #[] #[], sv [.n 6 x0, .n 6 x1, .n 6 y0, .n 6 y1, .b i], .bool false, .bool true] ?_ ?_
  · refine stpx (fun _ _ => ex_field faCv2_9 rfl) ?_
    refine stpv (fun γ w h => ex_load1 9 (s := .v (.func (.func 17) #[] #[])) (v := .func (.func 17) #[] #[]) sgT20 rfl (A2.keep h.out) rfl rfl rfl) ?_
    refine stpv (fun γ w h => ex_loads 0 5 (m := [.n 6 x0, .n 6 x1, .n 6 y0, .n 6 y1, .b i]) flG2 rfl rfl (A3.keep h.out) rfl rfl) ?_
    refine stpk Tryz.call17 (fun w h => twoRight_no hx0 hx1 hy0 hy1 h0 _) ?_
    exact stpx (fun _ _ => ex_not (r := false) rfl) .nil
  intro w5 hb5 HB8
  refine wp_cond_true rfl ?_
  refine rh0 HB8 [4] [.int .i64 30] ?_ ?_
  · exact stpa .nil
  intro w9 hb9 HB12
  exact wprt (ret1 Tryz.results87 (res_tmp rfl)) HB12
theorem pt2check_out (P : E2) (hT : EP.times C2 rN P ≠ EP.zero) : CI 87 #[sv cvS2, sv [.n 6 (bx0 P.pt), .n 6 (bx1 P.pt), .n 6 (by0 P.pt), .n 6 (by1 P.pt), .b (bi P.pt)]] (.int .i64 31) := fun w => by
  go_enter Tryz.func87, Tryz.ntmps87
  refine rh2 (brf w) (78) 0 cvS2 30 1 [.n 6 (bx0 P.pt), .n 6 (bx1 P.pt), .n 6 (by0 P.pt), .n 6 (by1 P.pt), .b (bi P.pt)] [2, 3, 4] (fun γ => [pz (γ 0), pz (γ 1), .int .i64 0]) ?_ ?_
  · refine stpb 0 (fun γ w h => ex_boxs (l := cvS2) rfl) ?_
    refine stpb 1 (fun γ w h => ex_boxs (l := [.n 6 (bx0 P.pt), .n 6 (bx1 P.pt), .n 6 (by0 P.pt), .n 6 (by1 P.pt), .b (bi P.pt)]) rfl) ?_
    exact stpa .nil
  intro γ1 w1 hb1 A2 A3 _ _ hn1 HB4
  refine wp_seq ?_
  refine rh0 HB4 [5, 6, 7, 8, 9] [pq (γ1 0) 9, .func (.func 17) #[] #[], sv [.n 6 (bx0 P.pt), .n 6 (bx1 P.pt), .n 6 (by0 P.pt), .n 6 (by1 P.pt), .b (bi P.pt)], .bool true, .bool false] ?_ ?_
  · refine stpx (fun _ _ => ex_field faCv2_9 rfl) ?_
    refine stpv (fun γ w h => ex_load1 9 (s := .v (.func (.func 17) #[] #[])) (v := .func (.func 17) #[] #[]) sgT20 rfl (A2.keep h.out) rfl rfl rfl) ?_
    refine stpv (fun γ w h => ex_loads 0 5 (m := [.n 6 (bx0 P.pt), .n 6 (bx1 P.pt), .n 6 (by0 P.pt), .n 6 (by1 P.pt), .b (bi P.pt)]) flG2 rfl rfl (A3.keep h.out) rfl rfl) ?_
    refine stpk Tryz.call17 (fun w h => twoRight_p P _) ?_
    exact stpx (fun _ _ => ex_not (r := true) rfl) .nil
  intro w5 hb5 HB8
  have A6 := A2.keep hb5.out
  have A7 := A3.keep hb5.out
  refine wp_cond_false rfl ?_
  refine wp_skip ?_
  refine th_r ?_
  refine wp_seq ?_
  refine rh0 HB8 [10, 11, 12, 13, 14] [pq (γ1 0) 10, .func (.func 13) #[] #[], sv [.n 6 (bx0 P.pt), .n 6 (bx1 P.pt), .n 6 (by0 P.pt), .n 6 (by1 P.pt), .b (bi P.pt)], .bool false, .bool true] ?_ ?_
  · refine stpx (fun _ _ => ex_field faCv2_10 rfl) ?_
    refine stpv (fun γ w h => ex_load1 10 (s := .v (.func (.func 13) #[] #[])) (v := .func (.func 13) #[] #[]) sgT20 rfl (A6.keep h.out) rfl rfl rfl) ?_
    refine stpv (fun γ w h => ex_loads 0 5 (m := [.n 6 (bx0 P.pt), .n 6 (bx1 P.pt), .n 6 (by0 P.pt), .n 6 (by1 P.pt), .b (bi P.pt)]) flG2 rfl rfl (A7.keep h.out) rfl rfl) ?_
    refine stpk Tryz.call13 (fun w h => twoGroup_q P false ⟨fun e => Bool.noConfusion e, fun e => absurd e hT⟩ _) ?_
    exact stpx (fun _ _ => ex_not (r := false) rfl) .nil
  intro w9 hb9 HB12
  refine wp_cond_true rfl ?_
  refine rh0 HB12 [4] [.int .i64 31] ?_ ?_
  · exact stpa .nil
  intro w13 hb13 HB16
  exact wprt (ret1 Tryz.results87 (res_tmp rfl)) HB16
theorem pt2check_in (P : E2) (hT : EP.times C2 rN P = EP.zero) : CI 87 #[sv cvS2, sv [.n 6 (bx0 P.pt), .n 6 (bx1 P.pt), .n 6 (by0 P.pt), .n 6 (by1 P.pt), .b (bi P.pt)]] (.int .i64 0) := fun w => by
  go_enter Tryz.func87, Tryz.ntmps87
  refine rh2 (brf w) (78) 0 cvS2 30 1 [.n 6 (bx0 P.pt), .n 6 (bx1 P.pt), .n 6 (by0 P.pt), .n 6 (by1 P.pt), .b (bi P.pt)] [2, 3, 4] (fun γ => [pz (γ 0), pz (γ 1), .int .i64 0]) ?_ ?_
  · refine stpb 0 (fun γ w h => ex_boxs (l := cvS2) rfl) ?_
    refine stpb 1 (fun γ w h => ex_boxs (l := [.n 6 (bx0 P.pt), .n 6 (bx1 P.pt), .n 6 (by0 P.pt), .n 6 (by1 P.pt), .b (bi P.pt)]) rfl) ?_
    exact stpa .nil
  intro γ1 w1 hb1 A2 A3 _ _ hn1 HB4
  refine wp_seq ?_
  refine rh0 HB4 [5, 6, 7, 8, 9] [pq (γ1 0) 9, .func (.func 17) #[] #[], sv [.n 6 (bx0 P.pt), .n 6 (bx1 P.pt), .n 6 (by0 P.pt), .n 6 (by1 P.pt), .b (bi P.pt)], .bool true, .bool false] ?_ ?_
  · refine stpx (fun _ _ => ex_field faCv2_9 rfl) ?_
    refine stpv (fun γ w h => ex_load1 9 (s := .v (.func (.func 17) #[] #[])) (v := .func (.func 17) #[] #[]) sgT20 rfl (A2.keep h.out) rfl rfl rfl) ?_
    refine stpv (fun γ w h => ex_loads 0 5 (m := [.n 6 (bx0 P.pt), .n 6 (bx1 P.pt), .n 6 (by0 P.pt), .n 6 (by1 P.pt), .b (bi P.pt)]) flG2 rfl rfl (A3.keep h.out) rfl rfl) ?_
    refine stpk Tryz.call17 (fun w h => twoRight_p P _) ?_
    exact stpx (fun _ _ => ex_not (r := true) rfl) .nil
  intro w5 hb5 HB8
  have A6 := A2.keep hb5.out
  have A7 := A3.keep hb5.out
  refine wp_cond_false rfl ?_
  refine wp_skip ?_
  refine th_r ?_
  refine wp_seq ?_
  refine rh0 HB8 [10, 11, 12, 13, 14] [pq (γ1 0) 10, .func (.func 13) #[] #[], sv [.n 6 (bx0 P.pt), .n 6 (bx1 P.pt), .n 6 (by0 P.pt), .n 6 (by1 P.pt), .b (bi P.pt)], .bool true, .bool false] ?_ ?_
  · refine stpx (fun _ _ => ex_field faCv2_10 rfl) ?_
    refine stpv (fun γ w h => ex_load1 10 (s := .v (.func (.func 13) #[] #[])) (v := .func (.func 13) #[] #[]) sgT20 rfl (A6.keep h.out) rfl rfl rfl) ?_
    refine stpv (fun γ w h => ex_loads 0 5 (m := [.n 6 (bx0 P.pt), .n 6 (bx1 P.pt), .n 6 (by0 P.pt), .n 6 (by1 P.pt), .b (bi P.pt)]) flG2 rfl rfl (A7.keep h.out) rfl rfl) ?_
    refine stpk Tryz.call13 (fun w h => twoGroup_q P true ⟨fun _ => hT, fun _ => rfl⟩ _) ?_
    exact stpx (fun _ _ => ex_not (r := true) rfl) .nil
  intro w9 hb9 HB12
  refine wp_cond_false rfl ?_
  refine wp_skip ?_
  refine th_r ?_
  refine rh0 HB12 [4] [.int .i64 0] ?_ ?_
  · exact stpa .nil
  intro w13 hb13 HB16
  exact wpr (ret1 Tryz.results87 (res_tmp rfl)) HB16
theorem ptwrite2_l (a b : Nat) (X Y : List UInt8) (hX : CI 70 #[nv 6 [a]] (str X)) (nX : X.length ≤ 200) (hY : CI 70 #[nv 6 [b]] (str Y)) (nY : Y.length ≤ 200) : CI 80 #[nv 6 [a, b]] (str ((Y ++ X))) := fun w => by
  go_enter Tryz.func80, Tryz.ntmps80
  refine rh1 (brf w) 28 0 [.n 6 a, .n 6 b] [1, 2] (fun γ => [pz (γ 0), str []]) ?_ ?_
  · refine stpb 0 (fun γ w h => ex_boxsn (K := 6) (l := [a, b]) rfl) ?_
    exact stpa .nil
  intro γ1 w1 hb1 A2 _ HB3
  refine rh0 HB3 [3, 4, 5, 6, 7, 8, 9, 2] [pq (γ1 0) 6, nv 6 [b], str Y, pz (γ1 0), nv 6 [a], str X, str ((Y ++ X)), str ((Y ++ X))] ?_ ?_
  · refine stpx (fun _ _ => ex_field faFp2_1 rfl) ?_
    refine stpl 1 1 flFp A2 ?_
    refine stpk Tryz.call70 (fun w h => hY _) ?_
    refine stpx (fun _ _ => ex_field faFp2_0 rfl) ?_
    refine stpl 0 1 flFp A2 ?_
    refine stpk Tryz.call70 (fun w h => hX _) ?_
    refine stpx (fun _ _ => ex_catL (a := Y) (b := X) rfl rfl (by omega)) ?_
    exact stpa .nil
  intro w4 hb4 HB6
  exact wpr (ret1 Tryz.results80 (res_tmp rfl)) HB6
theorem ptwrite2_v (a b : Nat) (ha : a < pN) (hb : b < pN) (w : World) : Calls Tryz.prog 80 #[nv 6 [a, b]] w (Is (str ((be 48 b ++ be 48 a))) w) :=
  ptwrite2_l a b (be 48 a) (be 48 b) (fun _ => fpPut_l a ha _) (by rw [length_be]; decide) (fun _ => fpPut_l b hb _) (by rw [length_be]; decide) w
theorem pt2put_nom (x0 : Nat) (x1 : Nat) (y0 : Nat) (y1 : Nat) (i : Bool) (hx0 : x0 < fpB) (hx1 : x1 < fpB) (hy0 : y0 < fpB) (hy1 : y1 < fpB) (h0 : ¬ RawOk2 x0 x1 y0 y1 i) : CI 32 #[sv cvS2, sv [.n 6 x0, .n 6 x1, .n 6 y0, .n 6 y1, .b i]] (.tuple #[str [], .int .i64 30]) := fun w => by
  go_enter Tryz.func32, Tryz.ntmps32
  refine rh2 (brf w) (78) 0 cvS2 30 1 [.n 6 x0, .n 6 x1, .n 6 y0, .n 6 y1, .b i] [2, 3, 4, 5] (fun γ => [pz (γ 0), pz (γ 1), str [], .int .i64 0]) ?_ ?_
  · refine stpb 0 (fun γ w h => ex_boxs (l := cvS2) rfl) ?_
    refine stpb 1 (fun γ w h => ex_boxs (l := [.n 6 x0, .n 6 x1, .n 6 y0, .n 6 y1, .b i]) rfl) ?_
    refine stpa ?_
    exact stpa .nil
  intro γ1 w1 hb1 A2 A3 _ _ hn1 HB4
  refine wp_seq ?_
  refine rh0 HB4 [11, 12, 13, 6] [sv cvS2, sv [.n 6 x0, .n 6 x1, .n 6 y0, .n 6 y1, .b i], .int .i64 30, .int .i64 30] ?_ ?_
  · refine stpv (fun γ w h => ex_loads 0 11 (m := cvS2) flCv2 rfl rfl (A2.keep h.out) rfl rfl) ?_
    refine stpv (fun γ w h => ex_loads 0 5 (m := [.n 6 x0, .n 6 x1, .n 6 y0, .n 6 y1, .b i]) flG2 rfl rfl (A3.keep h.out) rfl rfl) ?_
    refine stpk Tryz.call87 (fun w h => pt2check_no x0 x1 y0 y1 i hx0 hx1 hy0 hy1 h0 _) ?_
    exact stpa .nil
  intro w5 hb5 HB8
  refine rh0 HB8 [14, 15] [.int .i64 30, .bool true] ?_ ?_
  · refine stpm ?_
    exact stpx (fun _ _ => ex_neqi rfl rfl _ rfl) .nil
  intro w9 hb9 HB12
  refine wp_cond_true rfl ?_
  refine rh0 HB12 [16, 4, 5] [.int .i64 30, str [], .int .i64 30] ?_ ?_
  · refine stpm ?_
    refine stpa ?_
    exact stpa .nil
  intro w13 hb13 HB16
  exact wprt (ret2 Tryz.results32 (res_tmp rfl) (res_tmp rfl)) HB16
theorem pt2put_no (x0 : Nat) (x1 : Nat) (y0 : Nat) (y1 : Nat) (i : Bool) (hx0 : x0 < fpB) (hx1 : x1 < fpB) (hy0 : y0 < fpB) (hy1 : y1 < fpB) (h0 : ¬ RawOk2 x0 x1 y0 y1 i) : CI 8 #[sv [.n 6 x0, .n 6 x1, .n 6 y0, .n 6 y1, .b i]] (.tuple #[str [], .int .i64 30]) := fun w => by
  go_enter Tryz.func8, Tryz.ntmps8
  refine rh1 (brf w) 30 0 [.n 6 x0, .n 6 x1, .n 6 y0, .n 6 y1, .b i] [1, 2, 3] (fun γ => [pz (γ 0), str [], .int .i64 0]) ?_ ?_
  · refine stpb 0 (fun γ w h => ex_boxs (l := [.n 6 x0, .n 6 x1, .n 6 y0, .n 6 y1, .b i]) rfl) ?_
    refine stpa ?_
    exact stpa .nil
  intro γ1 w1 hb1 A2 _ HB3
  refine rh0 HB3 [4, 5, 6, 7, 8, 2, 3] [sv cvS2, sv [.n 6 x0, .n 6 x1, .n 6 y0, .n 6 y1, .b i], .tuple #[str [], .int .i64 30], str [], .int .i64 30, str [], .int .i64 30] ?_ ?_
  · refine stpk Tryz.call31 (fun w h => pt2first_v _) ?_
    refine stpv (fun γ w h => ex_loads 0 5 (m := [.n 6 x0, .n 6 x1, .n 6 y0, .n 6 y1, .b i]) flG2 rfl rfl (A2.keep h.out) rfl rfl) ?_
    refine stpk Tryz.call32 (fun w h => pt2put_nom x0 x1 y0 y1 i hx0 hx1 hy0 hy1 h0 _) ?_
    refine stpx (fun _ _ => ex_extract rfl rfl) ?_
    refine stpx (fun _ _ => ex_extract rfl rfl) ?_
    refine stpa ?_
    exact stpa .nil
  intro w4 hb4 HB6
  exact wpr (ret2 Tryz.results8 (res_tmp rfl) (res_tmp rfl)) HB6
theorem pt2put_outm (P : E2) (hT : EP.times C2 rN P ≠ EP.zero) : CI 32 #[sv cvS2, sv [.n 6 (bx0 P.pt), .n 6 (bx1 P.pt), .n 6 (by0 P.pt), .n 6 (by1 P.pt), .b (bi P.pt)]] (.tuple #[str [], .int .i64 31]) := fun w => by
  go_enter Tryz.func32, Tryz.ntmps32
  refine rh2 (brf w) (78) 0 cvS2 30 1 [.n 6 (bx0 P.pt), .n 6 (bx1 P.pt), .n 6 (by0 P.pt), .n 6 (by1 P.pt), .b (bi P.pt)] [2, 3, 4, 5] (fun γ => [pz (γ 0), pz (γ 1), str [], .int .i64 0]) ?_ ?_
  · refine stpb 0 (fun γ w h => ex_boxs (l := cvS2) rfl) ?_
    refine stpb 1 (fun γ w h => ex_boxs (l := [.n 6 (bx0 P.pt), .n 6 (bx1 P.pt), .n 6 (by0 P.pt), .n 6 (by1 P.pt), .b (bi P.pt)]) rfl) ?_
    refine stpa ?_
    exact stpa .nil
  intro γ1 w1 hb1 A2 A3 _ _ hn1 HB4
  refine wp_seq ?_
  refine rh0 HB4 [11, 12, 13, 6] [sv cvS2, sv [.n 6 (bx0 P.pt), .n 6 (bx1 P.pt), .n 6 (by0 P.pt), .n 6 (by1 P.pt), .b (bi P.pt)], .int .i64 31, .int .i64 31] ?_ ?_
  · refine stpv (fun γ w h => ex_loads 0 11 (m := cvS2) flCv2 rfl rfl (A2.keep h.out) rfl rfl) ?_
    refine stpv (fun γ w h => ex_loads 0 5 (m := [.n 6 (bx0 P.pt), .n 6 (bx1 P.pt), .n 6 (by0 P.pt), .n 6 (by1 P.pt), .b (bi P.pt)]) flG2 rfl rfl (A3.keep h.out) rfl rfl) ?_
    refine stpk Tryz.call87 (fun w h => pt2check_out P hT _) ?_
    exact stpa .nil
  intro w5 hb5 HB8
  refine rh0 HB8 [14, 15] [.int .i64 31, .bool true] ?_ ?_
  · refine stpm ?_
    exact stpx (fun _ _ => ex_neqi rfl rfl _ rfl) .nil
  intro w9 hb9 HB12
  refine wp_cond_true rfl ?_
  refine rh0 HB12 [16, 4, 5] [.int .i64 31, str [], .int .i64 31] ?_ ?_
  · refine stpm ?_
    refine stpa ?_
    exact stpa .nil
  intro w13 hb13 HB16
  exact wprt (ret2 Tryz.results32 (res_tmp rfl) (res_tmp rfl)) HB16
theorem pt2put_out (P : E2) (hT : EP.times C2 rN P ≠ EP.zero) : CI 8 #[sv [.n 6 (bx0 P.pt), .n 6 (bx1 P.pt), .n 6 (by0 P.pt), .n 6 (by1 P.pt), .b (bi P.pt)]] (.tuple #[str [], .int .i64 31]) := fun w => by
  go_enter Tryz.func8, Tryz.ntmps8
  refine rh1 (brf w) 30 0 [.n 6 (bx0 P.pt), .n 6 (bx1 P.pt), .n 6 (by0 P.pt), .n 6 (by1 P.pt), .b (bi P.pt)] [1, 2, 3] (fun γ => [pz (γ 0), str [], .int .i64 0]) ?_ ?_
  · refine stpb 0 (fun γ w h => ex_boxs (l := [.n 6 (bx0 P.pt), .n 6 (bx1 P.pt), .n 6 (by0 P.pt), .n 6 (by1 P.pt), .b (bi P.pt)]) rfl) ?_
    refine stpa ?_
    exact stpa .nil
  intro γ1 w1 hb1 A2 _ HB3
  refine rh0 HB3 [4, 5, 6, 7, 8, 2, 3] [sv cvS2, sv [.n 6 (bx0 P.pt), .n 6 (bx1 P.pt), .n 6 (by0 P.pt), .n 6 (by1 P.pt), .b (bi P.pt)], .tuple #[str [], .int .i64 31], str [], .int .i64 31, str [], .int .i64 31] ?_ ?_
  · refine stpk Tryz.call31 (fun w h => pt2first_v _) ?_
    refine stpv (fun γ w h => ex_loads 0 5 (m := [.n 6 (bx0 P.pt), .n 6 (bx1 P.pt), .n 6 (by0 P.pt), .n 6 (by1 P.pt), .b (bi P.pt)]) flG2 rfl rfl (A2.keep h.out) rfl rfl) ?_
    refine stpk Tryz.call32 (fun w h => pt2put_outm P hT _) ?_
    refine stpx (fun _ _ => ex_extract rfl rfl) ?_
    refine stpx (fun _ _ => ex_extract rfl rfl) ?_
    refine stpa ?_
    exact stpa .nil
  intro w4 hb4 HB6
  exact wpr (ret2 Tryz.results8 (res_tmp rfl) (res_tmp rfl)) HB6
theorem pt2put_in_m (x0 : Nat) (x1 : Nat) (y0 : Nat) (y1 : Nat) (i : Bool) (hC : CI 87 #[sv cvS2, sv [.n 6 x0, .n 6 x1, .n 6 y0, .n 6 y1, .b i]] (.int .i64 0)) (X : List UInt8) (hX : CI 80 #[nv 6 [x0, x1]] (str X)) (hL : Led X) (hn : X.length ≤ 200) (u : Bool) (hH : CI 82 #[nv 6 [y0, y1]] (.bool u)) : CI 32 #[sv cvS2, sv [.n 6 x0, .n 6 x1, .n 6 y0, .n 6 y1, .b i]] (.tuple #[str ((mark (fk true i u) X)), .int .i64 0]) := fun w => by
  go_enter Tryz.func32, Tryz.ntmps32
  refine rh2 (brf w) (78) 0 cvS2 30 1 [.n 6 x0, .n 6 x1, .n 6 y0, .n 6 y1, .b i] [2, 3, 4, 5] (fun γ => [pz (γ 0), pz (γ 1), str [], .int .i64 0]) ?_ ?_
  · refine stpb 0 (fun γ w h => ex_boxs (l := cvS2) rfl) ?_
    refine stpb 1 (fun γ w h => ex_boxs (l := [.n 6 x0, .n 6 x1, .n 6 y0, .n 6 y1, .b i]) rfl) ?_
    refine stpa ?_
    exact stpa .nil
  intro γ1 w1 hb1 A2 A3 _ _ hn1 HB4
  refine wp_seq ?_
  refine rh0 HB4 [11, 12, 13, 6] [sv cvS2, sv [.n 6 x0, .n 6 x1, .n 6 y0, .n 6 y1, .b i], .int .i64 0, .int .i64 0] ?_ ?_
  · refine stpv (fun γ w h => ex_loads 0 11 (m := cvS2) flCv2 rfl rfl (A2.keep h.out) rfl rfl) ?_
    refine stpv (fun γ w h => ex_loads 0 5 (m := [.n 6 x0, .n 6 x1, .n 6 y0, .n 6 y1, .b i]) flG2 rfl rfl (A3.keep h.out) rfl rfl) ?_
    refine stpk Tryz.call87 (fun w h => hC _) ?_
    exact stpa .nil
  intro w5 hb5 HB8
  have A6 := A2.keep hb5.out
  have A7 := A3.keep hb5.out
  refine rh0 HB8 [14, 15] [.int .i64 0, .bool false] ?_ ?_
  · refine stpm ?_
    exact stpx (fun _ _ => ex_neqi rfl rfl _ rfl) .nil
  intro w9 hb9 HB12
  have A10 := A6.keep hb9.out
  have A11 := A7.keep hb9.out
  refine wp_cond_false rfl ?_
  refine wp_skip ?_
  refine th_r ?_
  refine rhc HB12 [(28, 8, 10, [.n 6 0, .n 6 0], [.n 6 x0, .n 6 x1]), (28, 9, 11, [.n 6 0, .n 6 0], [.n 6 y0, .n 6 y1])] [18, 19, 20, 21, 17, 22, 23, 24, 7, 8, 9] (fun γ => [pq (γ1 0) 8, .func (.func 86) #[] #[], sv [.n 6 x0, .n 6 x1, .n 6 y0, .n 6 y1, .b i], .tuple #[nv 6 [x0, x1], nv 6 [y0, y1], .bool i], .tuple #[nv 6 [x0, x1], nv 6 [y0, y1], .bool i], nv 6 [x0, x1], nv 6 [y0, y1], .bool i, pz (γ 0), pz (γ 1), .bool i]) ?_ ?_
  · refine stpx (fun _ _ => ex_field faCv2_8 rfl) ?_
    refine stpv (fun γ w h => ex_load1 8 (s := .v (.func (.func 86) #[] #[])) (v := .func (.func 86) #[] #[]) sgT19 rfl (A10.keep h.out) rfl rfl rfl) ?_
    refine stpv (fun γ w h => ex_loads 0 5 (m := [.n 6 x0, .n 6 x1, .n 6 y0, .n 6 y1, .b i]) flG2 rfl rfl (A11.keep h.out) rfl rfl) ?_
    refine stpk Tryz.call86 (fun w h => pt2parts_v x0 x1 y0 y1 i _) ?_
    refine stpm ?_
    refine stpx (fun _ _ => ex_extract rfl rfl) ?_
    refine stpx (fun _ _ => ex_extract rfl rfl) ?_
    refine stpx (fun _ _ => ex_extract rfl rfl) ?_
    refine stpn 0 (fun γ w => ex_allocsn (K := 6) (l := [0, 0]) zFp2) ?_
    refine stpn 1 (fun γ w => ex_allocsn (K := 6) (l := [0, 0]) zFp2) ?_
    refine stpo 0 0 2 flFp2.2 (nv_cells 6 [x0, x1]) ?_
    refine stpo 1 0 2 flFp2.2 (nv_cells 6 [y0, y1]) ?_
    exact stpa .nil
  intro γ13 w13 hb13 hB13 hn13 HB18
  have A14 := A10.keep hb13.out
  have A16 : SB 28 w13 (γ13 0) [.n 6 x0, .n 6 x1] := (hB13 0 rfl).2
  have A17 : SB 28 w13 (γ13 1) [.n 6 y0, .n 6 y1] := (hB13 1 rfl).2
  refine rh0 HB18 [25, 26, 27, 28, 29, 30, 31, 32, 33, 10] [.bool i, .int .u8 ((32 * fk false i false : Nat) : Int), .int .u8 ((32 * fk true i false : Nat) : Int), pq (γ1 0) 3, .func (.func 82) #[] #[], nv 6 [y0, y1], .bool u, .int .u8 ((32 * fk false false u : Nat) : Int), .int .u8 ((32 * fk true i u : Nat) : Int), .int .u8 ((32 * fk true i u : Nat) : Int)] ?_ ?_
  · refine stpm ?_
    refine stpk Tryz.call78 (fun w h => ptflag_64 i _) ?_
    refine stpx (fun _ _ => ex_bitsor rfl rfl _ (or_128 i)) ?_
    refine stpx (fun _ _ => ex_field faCv2_3 rfl) ?_
    refine stpv (fun γ w h => ex_load1 3 (s := .v (.func (.func 82) #[] #[])) (v := .func (.func 82) #[] #[]) sgT14 rfl (A14.keep h.out) rfl rfl rfl) ?_
    refine stpl 0 2 flFp2 A17 ?_
    refine stpk Tryz.call82 (fun w h => hH _) ?_
    refine stpk Tryz.call78 (fun w h => ptflag_32 u _) ?_
    refine stpx (fun _ _ => ex_bitsor rfl rfl _ (or_32 i u)) ?_
    exact stpa .nil
  intro w19 hb19 HB24
  have A20 := A14.keep hb19.out
  have A22 := A16.keep hb19.out
  refine rh0 HB24 [34, 35, 36, 37, 38, 39, 4, 5] [pq (γ1 0) 1, .func (.func 80) #[] #[], nv 6 [x0, x1], str X, .int .u8 ((32 * fk true i u : Nat) : Int), str ((mark (fk true i u) X)), str ((mark (fk true i u) X)), .int .i64 0] ?_ ?_
  · refine stpx (fun _ _ => ex_field faCv2_1 rfl) ?_
    refine stpv (fun γ w h => ex_load1 1 (s := .v (.func (.func 80) #[] #[])) (v := .func (.func 80) #[] #[]) sgT12 rfl (A20.keep h.out) rfl rfl rfl) ?_
    refine stpl 0 2 flFp2 A22 ?_
    refine stpk Tryz.call80 (fun w h => hX _) ?_
    refine stpm ?_
    refine stpc (str ((mark (fk true i u) X))) (fun γ w => ex_call (vs := [str X, .int .u8 ((32 * fk true i u : Nat) : Int)]) rfl Tryz.call79 rfl) (fun w h => ptmarked_q X hL (by omega) _ (fk_lt _ _ _) _) ?_
    refine stpa ?_
    exact stpa .nil
  intro w25 hb25 HB30
  exact wpr (ret2 Tryz.results32 (res_tmp rfl) (res_tmp rfl)) HB30
theorem pt2put_l (x0 : Nat) (x1 : Nat) (y0 : Nat) (y1 : Nat) (i : Bool) (R : List UInt8) (hM : CI 32 #[sv cvS2, sv [.n 6 x0, .n 6 x1, .n 6 y0, .n 6 y1, .b i]] (.tuple #[str R, .int .i64 0])) : CI 8 #[sv [.n 6 x0, .n 6 x1, .n 6 y0, .n 6 y1, .b i]] (.tuple #[str R, .int .i64 0]) := fun w => by
  go_enter Tryz.func8, Tryz.ntmps8
  refine rh1 (brf w) 30 0 [.n 6 x0, .n 6 x1, .n 6 y0, .n 6 y1, .b i] [1, 2, 3] (fun γ => [pz (γ 0), str [], .int .i64 0]) ?_ ?_
  · refine stpb 0 (fun γ w h => ex_boxs (l := [.n 6 x0, .n 6 x1, .n 6 y0, .n 6 y1, .b i]) rfl) ?_
    refine stpa ?_
    exact stpa .nil
  intro γ1 w1 hb1 A2 _ HB3
  refine rh0 HB3 [4, 5, 6, 7, 8, 2, 3] [sv cvS2, sv [.n 6 x0, .n 6 x1, .n 6 y0, .n 6 y1, .b i], .tuple #[str R, .int .i64 0], str R, .int .i64 0, str R, .int .i64 0] ?_ ?_
  · refine stpk Tryz.call31 (fun w h => pt2first_v _) ?_
    refine stpv (fun γ w h => ex_loads 0 5 (m := [.n 6 x0, .n 6 x1, .n 6 y0, .n 6 y1, .b i]) flG2 rfl rfl (A2.keep h.out) rfl rfl) ?_
    refine stpk Tryz.call32 (fun w h => hM _) ?_
    refine stpx (fun _ _ => ex_extract rfl rfl) ?_
    refine stpx (fun _ _ => ex_extract rfl rfl) ?_
    refine stpa ?_
    exact stpa .nil
  intro w4 hb4 HB6
  exact wpr (ret2 Tryz.results8 (res_tmp rfl) (res_tmp rfl)) HB6
theorem pt2put_in (P : E2) (hT : EP.times C2 rN P = EP.zero) (w : World) : Calls Tryz.prog 8 #[sv [.n 6 (bx0 P.pt), .n 6 (bx1 P.pt), .n 6 (by0 P.pt), .n 6 (by1 P.pt), .b (bi P.pt)]] w (Is (.tuple #[str ((mark (fk true (bi P.pt) (dHigh (by0 P.pt) (by1 P.pt))) (be 48 (bx1 P.pt) ++ be 48 (bx0 P.pt)))), .int .i64 0]) w) :=
  pt2put_l (bx0 P.pt) (bx1 P.pt) (by0 P.pt) (by1 P.pt) (bi P.pt) _ (fun w => pt2put_in_m (bx0 P.pt) (bx1 P.pt) (by0 P.pt) (by1 P.pt) (bi P.pt) (fun _ => pt2check_in P hT _) _ (fun _ => ptwrite2_v (bx0 P.pt) (bx1 P.pt) (bx0_P _) (bx1_P _) _) (led_app (led_be (bx1_P _))) (by simp only [List.length_append, length_be]; decide) _ (fun _ => duoHigh_v (by0 P.pt) (by1 P.pt) _ (by0_B _) (by1_B _) (dHigh (by0 P.pt) (by1 P.pt)) rfl) w) w
theorem pt2wide_nom (x0 : Nat) (x1 : Nat) (y0 : Nat) (y1 : Nat) (i : Bool) (hx0 : x0 < fpB) (hx1 : x1 < fpB) (hy0 : y0 < fpB) (hy1 : y1 < fpB) (h0 : ¬ RawOk2 x0 x1 y0 y1 i) : CI 33 #[sv cvS2, sv [.n 6 x0, .n 6 x1, .n 6 y0, .n 6 y1, .b i]] (.tuple #[str [], .int .i64 30]) := fun w => by
  go_enter Tryz.func33, Tryz.ntmps33
  refine rh2 (brf w) (78) 0 cvS2 30 1 [.n 6 x0, .n 6 x1, .n 6 y0, .n 6 y1, .b i] [2, 3, 4, 5] (fun γ => [pz (γ 0), pz (γ 1), str [], .int .i64 0]) ?_ ?_
  · refine stpb 0 (fun γ w h => ex_boxs (l := cvS2) rfl) ?_
    refine stpb 1 (fun γ w h => ex_boxs (l := [.n 6 x0, .n 6 x1, .n 6 y0, .n 6 y1, .b i]) rfl) ?_
    refine stpa ?_
    exact stpa .nil
  intro γ1 w1 hb1 A2 A3 _ _ hn1 HB4
  refine wp_seq ?_
  refine rh0 HB4 [10, 11, 12, 6] [sv cvS2, sv [.n 6 x0, .n 6 x1, .n 6 y0, .n 6 y1, .b i], .int .i64 30, .int .i64 30] ?_ ?_
  · refine stpv (fun γ w h => ex_loads 0 11 (m := cvS2) flCv2 rfl rfl (A2.keep h.out) rfl rfl) ?_
    refine stpv (fun γ w h => ex_loads 0 5 (m := [.n 6 x0, .n 6 x1, .n 6 y0, .n 6 y1, .b i]) flG2 rfl rfl (A3.keep h.out) rfl rfl) ?_
    refine stpk Tryz.call87 (fun w h => pt2check_no x0 x1 y0 y1 i hx0 hx1 hy0 hy1 h0 _) ?_
    exact stpa .nil
  intro w5 hb5 HB8
  refine rh0 HB8 [13, 14] [.int .i64 30, .bool true] ?_ ?_
  · refine stpm ?_
    exact stpx (fun _ _ => ex_neqi rfl rfl _ rfl) .nil
  intro w9 hb9 HB12
  refine wp_cond_true rfl ?_
  refine rh0 HB12 [15, 4, 5] [.int .i64 30, str [], .int .i64 30] ?_ ?_
  · refine stpm ?_
    refine stpa ?_
    exact stpa .nil
  intro w13 hb13 HB16
  exact wprt (ret2 Tryz.results33 (res_tmp rfl) (res_tmp rfl)) HB16
theorem pt2wide_no (x0 : Nat) (x1 : Nat) (y0 : Nat) (y1 : Nat) (i : Bool) (hx0 : x0 < fpB) (hx1 : x1 < fpB) (hy0 : y0 < fpB) (hy1 : y1 < fpB) (h0 : ¬ RawOk2 x0 x1 y0 y1 i) : CI 9 #[sv [.n 6 x0, .n 6 x1, .n 6 y0, .n 6 y1, .b i]] (.tuple #[str [], .int .i64 30]) := fun w => by
  go_enter Tryz.func9, Tryz.ntmps9
  refine rh1 (brf w) 30 0 [.n 6 x0, .n 6 x1, .n 6 y0, .n 6 y1, .b i] [1, 2, 3] (fun γ => [pz (γ 0), str [], .int .i64 0]) ?_ ?_
  · refine stpb 0 (fun γ w h => ex_boxs (l := [.n 6 x0, .n 6 x1, .n 6 y0, .n 6 y1, .b i]) rfl) ?_
    refine stpa ?_
    exact stpa .nil
  intro γ1 w1 hb1 A2 _ HB3
  refine rh0 HB3 [4, 5, 6, 7, 8, 2, 3] [sv cvS2, sv [.n 6 x0, .n 6 x1, .n 6 y0, .n 6 y1, .b i], .tuple #[str [], .int .i64 30], str [], .int .i64 30, str [], .int .i64 30] ?_ ?_
  · refine stpk Tryz.call31 (fun w h => pt2first_v _) ?_
    refine stpv (fun γ w h => ex_loads 0 5 (m := [.n 6 x0, .n 6 x1, .n 6 y0, .n 6 y1, .b i]) flG2 rfl rfl (A2.keep h.out) rfl rfl) ?_
    refine stpk Tryz.call33 (fun w h => pt2wide_nom x0 x1 y0 y1 i hx0 hx1 hy0 hy1 h0 _) ?_
    refine stpx (fun _ _ => ex_extract rfl rfl) ?_
    refine stpx (fun _ _ => ex_extract rfl rfl) ?_
    refine stpa ?_
    exact stpa .nil
  intro w4 hb4 HB6
  exact wpr (ret2 Tryz.results9 (res_tmp rfl) (res_tmp rfl)) HB6
theorem pt2wide_outm (P : E2) (hT : EP.times C2 rN P ≠ EP.zero) : CI 33 #[sv cvS2, sv [.n 6 (bx0 P.pt), .n 6 (bx1 P.pt), .n 6 (by0 P.pt), .n 6 (by1 P.pt), .b (bi P.pt)]] (.tuple #[str [], .int .i64 31]) := fun w => by
  go_enter Tryz.func33, Tryz.ntmps33
  refine rh2 (brf w) (78) 0 cvS2 30 1 [.n 6 (bx0 P.pt), .n 6 (bx1 P.pt), .n 6 (by0 P.pt), .n 6 (by1 P.pt), .b (bi P.pt)] [2, 3, 4, 5] (fun γ => [pz (γ 0), pz (γ 1), str [], .int .i64 0]) ?_ ?_
  · refine stpb 0 (fun γ w h => ex_boxs (l := cvS2) rfl) ?_
    refine stpb 1 (fun γ w h => ex_boxs (l := [.n 6 (bx0 P.pt), .n 6 (bx1 P.pt), .n 6 (by0 P.pt), .n 6 (by1 P.pt), .b (bi P.pt)]) rfl) ?_
    refine stpa ?_
    exact stpa .nil
  intro γ1 w1 hb1 A2 A3 _ _ hn1 HB4
  refine wp_seq ?_
  refine rh0 HB4 [10, 11, 12, 6] [sv cvS2, sv [.n 6 (bx0 P.pt), .n 6 (bx1 P.pt), .n 6 (by0 P.pt), .n 6 (by1 P.pt), .b (bi P.pt)], .int .i64 31, .int .i64 31] ?_ ?_
  · refine stpv (fun γ w h => ex_loads 0 11 (m := cvS2) flCv2 rfl rfl (A2.keep h.out) rfl rfl) ?_
    refine stpv (fun γ w h => ex_loads 0 5 (m := [.n 6 (bx0 P.pt), .n 6 (bx1 P.pt), .n 6 (by0 P.pt), .n 6 (by1 P.pt), .b (bi P.pt)]) flG2 rfl rfl (A3.keep h.out) rfl rfl) ?_
    refine stpk Tryz.call87 (fun w h => pt2check_out P hT _) ?_
    exact stpa .nil
  intro w5 hb5 HB8
  refine rh0 HB8 [13, 14] [.int .i64 31, .bool true] ?_ ?_
  · refine stpm ?_
    exact stpx (fun _ _ => ex_neqi rfl rfl _ rfl) .nil
  intro w9 hb9 HB12
  refine wp_cond_true rfl ?_
  refine rh0 HB12 [15, 4, 5] [.int .i64 31, str [], .int .i64 31] ?_ ?_
  · refine stpm ?_
    refine stpa ?_
    exact stpa .nil
  intro w13 hb13 HB16
  exact wprt (ret2 Tryz.results33 (res_tmp rfl) (res_tmp rfl)) HB16
theorem pt2wide_out (P : E2) (hT : EP.times C2 rN P ≠ EP.zero) : CI 9 #[sv [.n 6 (bx0 P.pt), .n 6 (bx1 P.pt), .n 6 (by0 P.pt), .n 6 (by1 P.pt), .b (bi P.pt)]] (.tuple #[str [], .int .i64 31]) := fun w => by
  go_enter Tryz.func9, Tryz.ntmps9
  refine rh1 (brf w) 30 0 [.n 6 (bx0 P.pt), .n 6 (bx1 P.pt), .n 6 (by0 P.pt), .n 6 (by1 P.pt), .b (bi P.pt)] [1, 2, 3] (fun γ => [pz (γ 0), str [], .int .i64 0]) ?_ ?_
  · refine stpb 0 (fun γ w h => ex_boxs (l := [.n 6 (bx0 P.pt), .n 6 (bx1 P.pt), .n 6 (by0 P.pt), .n 6 (by1 P.pt), .b (bi P.pt)]) rfl) ?_
    refine stpa ?_
    exact stpa .nil
  intro γ1 w1 hb1 A2 _ HB3
  refine rh0 HB3 [4, 5, 6, 7, 8, 2, 3] [sv cvS2, sv [.n 6 (bx0 P.pt), .n 6 (bx1 P.pt), .n 6 (by0 P.pt), .n 6 (by1 P.pt), .b (bi P.pt)], .tuple #[str [], .int .i64 31], str [], .int .i64 31, str [], .int .i64 31] ?_ ?_
  · refine stpk Tryz.call31 (fun w h => pt2first_v _) ?_
    refine stpv (fun γ w h => ex_loads 0 5 (m := [.n 6 (bx0 P.pt), .n 6 (bx1 P.pt), .n 6 (by0 P.pt), .n 6 (by1 P.pt), .b (bi P.pt)]) flG2 rfl rfl (A2.keep h.out) rfl rfl) ?_
    refine stpk Tryz.call33 (fun w h => pt2wide_outm P hT _) ?_
    refine stpx (fun _ _ => ex_extract rfl rfl) ?_
    refine stpx (fun _ _ => ex_extract rfl rfl) ?_
    refine stpa ?_
    exact stpa .nil
  intro w4 hb4 HB6
  exact wpr (ret2 Tryz.results9 (res_tmp rfl) (res_tmp rfl)) HB6
theorem pt2wide_in_m (x0 : Nat) (x1 : Nat) (y0 : Nat) (y1 : Nat) (i : Bool) (hC : CI 87 #[sv cvS2, sv [.n 6 x0, .n 6 x1, .n 6 y0, .n 6 y1, .b i]] (.int .i64 0)) (X : List UInt8) (hX : CI 80 #[nv 6 [x0, x1]] (str X)) (hL : Led X) (hn : X.length ≤ 200) (Y : List UInt8) (hY : CI 80 #[nv 6 [y0, y1]] (str Y)) (hn' : Y.length ≤ 200) : CI 33 #[sv cvS2, sv [.n 6 x0, .n 6 x1, .n 6 y0, .n 6 y1, .b i]] (.tuple #[str ((mark (fk false i false) (X ++ Y))), .int .i64 0]) := fun w => by
  go_enter Tryz.func33, Tryz.ntmps33
  refine rh2 (brf w) (78) 0 cvS2 30 1 [.n 6 x0, .n 6 x1, .n 6 y0, .n 6 y1, .b i] [2, 3, 4, 5] (fun γ => [pz (γ 0), pz (γ 1), str [], .int .i64 0]) ?_ ?_
  · refine stpb 0 (fun γ w h => ex_boxs (l := cvS2) rfl) ?_
    refine stpb 1 (fun γ w h => ex_boxs (l := [.n 6 x0, .n 6 x1, .n 6 y0, .n 6 y1, .b i]) rfl) ?_
    refine stpa ?_
    exact stpa .nil
  intro γ1 w1 hb1 A2 A3 _ _ hn1 HB4
  refine wp_seq ?_
  refine rh0 HB4 [10, 11, 12, 6] [sv cvS2, sv [.n 6 x0, .n 6 x1, .n 6 y0, .n 6 y1, .b i], .int .i64 0, .int .i64 0] ?_ ?_
  · refine stpv (fun γ w h => ex_loads 0 11 (m := cvS2) flCv2 rfl rfl (A2.keep h.out) rfl rfl) ?_
    refine stpv (fun γ w h => ex_loads 0 5 (m := [.n 6 x0, .n 6 x1, .n 6 y0, .n 6 y1, .b i]) flG2 rfl rfl (A3.keep h.out) rfl rfl) ?_
    refine stpk Tryz.call87 (fun w h => hC _) ?_
    exact stpa .nil
  intro w5 hb5 HB8
  have A6 := A2.keep hb5.out
  have A7 := A3.keep hb5.out
  refine rh0 HB8 [13, 14] [.int .i64 0, .bool false] ?_ ?_
  · refine stpm ?_
    exact stpx (fun _ _ => ex_neqi rfl rfl _ rfl) .nil
  intro w9 hb9 HB12
  have A10 := A6.keep hb9.out
  have A11 := A7.keep hb9.out
  refine wp_cond_false rfl ?_
  refine wp_skip ?_
  refine th_r ?_
  refine rhc HB12 [(28, 8, 10, [.n 6 0, .n 6 0], [.n 6 x0, .n 6 x1]), (28, 9, 11, [.n 6 0, .n 6 0], [.n 6 y0, .n 6 y1])] [17, 18, 19, 20, 16, 21, 22, 23, 7, 8, 9] (fun γ => [pq (γ1 0) 8, .func (.func 86) #[] #[], sv [.n 6 x0, .n 6 x1, .n 6 y0, .n 6 y1, .b i], .tuple #[nv 6 [x0, x1], nv 6 [y0, y1], .bool i], .tuple #[nv 6 [x0, x1], nv 6 [y0, y1], .bool i], nv 6 [x0, x1], nv 6 [y0, y1], .bool i, pz (γ 0), pz (γ 1), .bool i]) ?_ ?_
  · refine stpx (fun _ _ => ex_field faCv2_8 rfl) ?_
    refine stpv (fun γ w h => ex_load1 8 (s := .v (.func (.func 86) #[] #[])) (v := .func (.func 86) #[] #[]) sgT19 rfl (A10.keep h.out) rfl rfl rfl) ?_
    refine stpv (fun γ w h => ex_loads 0 5 (m := [.n 6 x0, .n 6 x1, .n 6 y0, .n 6 y1, .b i]) flG2 rfl rfl (A11.keep h.out) rfl rfl) ?_
    refine stpk Tryz.call86 (fun w h => pt2parts_v x0 x1 y0 y1 i _) ?_
    refine stpm ?_
    refine stpx (fun _ _ => ex_extract rfl rfl) ?_
    refine stpx (fun _ _ => ex_extract rfl rfl) ?_
    refine stpx (fun _ _ => ex_extract rfl rfl) ?_
    refine stpn 0 (fun γ w => ex_allocsn (K := 6) (l := [0, 0]) zFp2) ?_
    refine stpn 1 (fun γ w => ex_allocsn (K := 6) (l := [0, 0]) zFp2) ?_
    refine stpo 0 0 2 flFp2.2 (nv_cells 6 [x0, x1]) ?_
    refine stpo 1 0 2 flFp2.2 (nv_cells 6 [y0, y1]) ?_
    exact stpa .nil
  intro γ13 w13 hb13 hB13 hn13 HB18
  have A14 := A10.keep hb13.out
  have A16 : SB 28 w13 (γ13 0) [.n 6 x0, .n 6 x1] := (hB13 0 rfl).2
  have A17 : SB 28 w13 (γ13 1) [.n 6 y0, .n 6 y1] := (hB13 1 rfl).2
  refine rh0 HB18 [24, 25, 26, 27, 28, 29, 30, 31, 32, 33, 34, 35, 4, 5] [pq (γ1 0) 1, .func (.func 80) #[] #[], nv 6 [x0, x1], str X, pq (γ1 0) 1, .func (.func 80) #[] #[], nv 6 [y0, y1], str Y, str ((X ++ Y)), .bool i, .int .u8 ((32 * fk false i false : Nat) : Int), str ((mark (fk false i false) (X ++ Y))), str ((mark (fk false i false) (X ++ Y))), .int .i64 0] ?_ ?_
  · refine stpx (fun _ _ => ex_field faCv2_1 rfl) ?_
    refine stpv (fun γ w h => ex_load1 1 (s := .v (.func (.func 80) #[] #[])) (v := .func (.func 80) #[] #[]) sgT12 rfl (A14.keep h.out) rfl rfl rfl) ?_
    refine stpl 0 2 flFp2 A16 ?_
    refine stpk Tryz.call80 (fun w h => hX _) ?_
    refine stpx (fun _ _ => ex_field faCv2_1 rfl) ?_
    refine stpv (fun γ w h => ex_load1 1 (s := .v (.func (.func 80) #[] #[])) (v := .func (.func 80) #[] #[]) sgT12 rfl (A14.keep h.out) rfl rfl rfl) ?_
    refine stpl 0 2 flFp2 A17 ?_
    refine stpk Tryz.call80 (fun w h => hY _) ?_
    refine stpx (fun _ _ => ex_catL (a := X) (b := Y) rfl rfl (by omega)) ?_
    refine stpm ?_
    refine stpk Tryz.call78 (fun w h => ptflag_64 i _) ?_
    refine stpc (str ((mark (fk false i false) (X ++ Y)))) (fun γ w => ex_call (vs := [str ((X ++ Y)), .int .u8 ((32 * fk false i false : Nat) : Int)]) rfl Tryz.call79 rfl) (fun w h => ptmarked_q _ (led_app hL) (by simp only [List.length_append]; omega) _ (fk_lt _ _ _) _) ?_
    refine stpa ?_
    exact stpa .nil
  intro w19 hb19 HB24
  exact wpr (ret2 Tryz.results33 (res_tmp rfl) (res_tmp rfl)) HB24
theorem pt2wide_l (x0 : Nat) (x1 : Nat) (y0 : Nat) (y1 : Nat) (i : Bool) (R : List UInt8) (hM : CI 33 #[sv cvS2, sv [.n 6 x0, .n 6 x1, .n 6 y0, .n 6 y1, .b i]] (.tuple #[str R, .int .i64 0])) : CI 9 #[sv [.n 6 x0, .n 6 x1, .n 6 y0, .n 6 y1, .b i]] (.tuple #[str R, .int .i64 0]) := fun w => by
  go_enter Tryz.func9, Tryz.ntmps9
  refine rh1 (brf w) 30 0 [.n 6 x0, .n 6 x1, .n 6 y0, .n 6 y1, .b i] [1, 2, 3] (fun γ => [pz (γ 0), str [], .int .i64 0]) ?_ ?_
  · refine stpb 0 (fun γ w h => ex_boxs (l := [.n 6 x0, .n 6 x1, .n 6 y0, .n 6 y1, .b i]) rfl) ?_
    refine stpa ?_
    exact stpa .nil
  intro γ1 w1 hb1 A2 _ HB3
  refine rh0 HB3 [4, 5, 6, 7, 8, 2, 3] [sv cvS2, sv [.n 6 x0, .n 6 x1, .n 6 y0, .n 6 y1, .b i], .tuple #[str R, .int .i64 0], str R, .int .i64 0, str R, .int .i64 0] ?_ ?_
  · refine stpk Tryz.call31 (fun w h => pt2first_v _) ?_
    refine stpv (fun γ w h => ex_loads 0 5 (m := [.n 6 x0, .n 6 x1, .n 6 y0, .n 6 y1, .b i]) flG2 rfl rfl (A2.keep h.out) rfl rfl) ?_
    refine stpk Tryz.call33 (fun w h => hM _) ?_
    refine stpx (fun _ _ => ex_extract rfl rfl) ?_
    refine stpx (fun _ _ => ex_extract rfl rfl) ?_
    refine stpa ?_
    exact stpa .nil
  intro w4 hb4 HB6
  exact wpr (ret2 Tryz.results9 (res_tmp rfl) (res_tmp rfl)) HB6
theorem pt2wide_in (P : E2) (hT : EP.times C2 rN P = EP.zero) (w : World) : Calls Tryz.prog 9 #[sv [.n 6 (bx0 P.pt), .n 6 (bx1 P.pt), .n 6 (by0 P.pt), .n 6 (by1 P.pt), .b (bi P.pt)]] w (Is (.tuple #[str ((mark (fk false (bi P.pt) false) ((be 48 (bx1 P.pt) ++ be 48 (bx0 P.pt)) ++ (be 48 (by1 P.pt) ++ be 48 (by0 P.pt))))), .int .i64 0]) w) :=
  pt2wide_l (bx0 P.pt) (bx1 P.pt) (by0 P.pt) (by1 P.pt) (bi P.pt) _ (fun w => pt2wide_in_m (bx0 P.pt) (bx1 P.pt) (by0 P.pt) (by1 P.pt) (bi P.pt) (fun _ => pt2check_in P hT _) _ (fun _ => ptwrite2_v (bx0 P.pt) (bx1 P.pt) (bx0_P _) (bx1_P _) _) (led_app (led_be (bx1_P _))) (by simp only [List.length_append, length_be]; decide) _ (fun _ => ptwrite2_v (by0 P.pt) (by1 P.pt) (by0_P _) (by1_P _) _) (by simp only [List.length_append, length_be]; decide) w) w
end
end Go.Proofs.YtkkmekdhejhapaaGreat

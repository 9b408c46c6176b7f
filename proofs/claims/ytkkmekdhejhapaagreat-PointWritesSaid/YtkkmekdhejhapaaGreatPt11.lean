/- What is proved here: package point, the first curve: its struct of functions, which points are let by, and the bytes of points. -/
import Derived.Test.YtkkmekdhejhapaaGreatPtFlag
import Derived.Test.YtkkmekdhejhapaaGreatOne3
import Derived.Test.YtkkmekdhejhapaaGreatDuo1
import Derived.Test.YtkkmekdhejhapaaGreatFpRoot
namespace Go.Proofs.YtkkmekdhejhapaaGreat
open Go.RowKit Cv
set_option maxRecDepth 20000
set_option maxHeartbeats 4000000
def cvS1 : List Seg := [.i .i64 48, .v (.func (.func 70) #[] #[]), .v (.func (.func 71) #[] #[]), .v (.func (.func 72) #[] #[]), .v (.func (.func 73) #[] #[]), .v (.func (.func 74) #[] #[]), .v (.func (.func 42) #[] #[]), .v (.func (.func 75) #[] #[]), .v (.func (.func 76) #[] #[]), .v (.func (.func 25) #[] #[]), .v (.func (.func 11) #[] #[])]
theorem pt1first_v : CI 28 #[] (sv cvS1) := fun w => by
  go_enter Tryz.func28, Tryz.ntmps28
  refine rh1 (brf w) (68) 0 [.i .i64 0, .v (.nilFunc), .v (.nilFunc), .v (.nilFunc), .v (.nilFunc), .v (.nilFunc), .v (.nilFunc), .v (.nilFunc), .v (.nilFunc), .v (.nilFunc), .v (.nilFunc)] [0] (fun γ => [pz (γ 0)]) ?_ ?_
  · exact stpb 0 (fun γ w h => ex_allocs (l := [.i .i64 0, .v (.nilFunc), .v (.nilFunc), .v (.nilFunc), .v (.nilFunc), .v (.nilFunc), .v (.nilFunc), .v (.nilFunc), .v (.nilFunc), .v (.nilFunc), .v (.nilFunc)]) zCv1) .nil
  intro γ1 w1 hb1 A2 le2 HB3
  refine rhs HB3 le2 1 0 cvS1 [1] [sv cvS1] ?_ ?_
  · refine latv (fun γ w h => ex_builds stCv1 (l := cvS1) (vs := [(0, .int .i64 48), (1, .func (.func 70) #[] #[]), (2, .func (.func 71) #[] #[]), (3, .func (.func 72) #[] #[]), (4, .func (.func 73) #[] #[]), (5, .func (.func 74) #[] #[]), (6, .func (.func 42) #[] #[]), (7, .func (.func 75) #[] #[]), (8, .func (.func 76) #[] #[]), (9, .func (.func 25) #[] #[]), (10, .func (.func 11) #[] #[])]) rfl ((fills_cons 0 1 (m := [.i .i64 48]) (z' := [.i .i64 48, .v (.nilFunc), .v (.nilFunc), .v (.nilFunc), .v (.nilFunc), .v (.nilFunc), .v (.nilFunc), .v (.nilFunc), .v (.nilFunc), .v (.nilFunc), .v (.nilFunc)]) rfl (int_cells .i64 48) rfl rfl rfl rfl).trans ((fills_cons 1 1 (m := [.v (.func (.func 70) #[] #[])]) (z' := [.i .i64 48, .v (.func (.func 70) #[] #[]), .v (.nilFunc), .v (.nilFunc), .v (.nilFunc), .v (.nilFunc), .v (.nilFunc), .v (.nilFunc), .v (.nilFunc), .v (.nilFunc), .v (.nilFunc)]) rfl rfl rfl rfl rfl rfl).trans ((fills_cons 2 1 (m := [.v (.func (.func 71) #[] #[])]) (z' := [.i .i64 48, .v (.func (.func 70) #[] #[]), .v (.func (.func 71) #[] #[]), .v (.nilFunc), .v (.nilFunc), .v (.nilFunc), .v (.nilFunc), .v (.nilFunc), .v (.nilFunc), .v (.nilFunc), .v (.nilFunc)]) rfl rfl rfl rfl rfl rfl).trans ((fills_cons 3 1 (m := [.v (.func (.func 72) #[] #[])]) (z' := [.i .i64 48, .v (.func (.func 70) #[] #[]), .v (.func (.func 71) #[] #[]), .v (.func (.func 72) #[] #[]), .v (.nilFunc), .v (.nilFunc), .v (.nilFunc), .v (.nilFunc), .v (.nilFunc), .v (.nilFunc), .v (.nilFunc)]) rfl rfl rfl rfl rfl rfl).trans ((fills_cons 4 1 (m := [.v (.func (.func 73) #[] #[])]) (z' := [.i .i64 48, .v (.func (.func 70) #[] #[]), .v (.func (.func 71) #[] #[]), .v (.func (.func 72) #[] #[]), .v (.func (.func 73) #[] #[]), .v (.nilFunc), .v (.nilFunc), .v (.nilFunc), .v (.nilFunc), .v (.nilFunc), .v (.nilFunc)]) rfl rfl rfl rfl rfl rfl).trans ((fills_cons 5 1 (m := [.v (.func (.func 74) #[] #[])]) (z' := [.i .i64 48, .v (.func (.func 70) #[] #[]), .v (.func (.func 71) #[] #[]), .v (.func (.func 72) #[] #[]), .v (.func (.func 73) #[] #[]), .v (.func (.func 74) #[] #[]), .v (.nilFunc), .v (.nilFunc), .v (.nilFunc), .v (.nilFunc), .v (.nilFunc)]) rfl rfl rfl rfl rfl rfl).trans ((fills_cons 6 1 (m := [.v (.func (.func 42) #[] #[])]) (z' := [.i .i64 48, .v (.func (.func 70) #[] #[]), .v (.func (.func 71) #[] #[]), .v (.func (.func 72) #[] #[]), .v (.func (.func 73) #[] #[]), .v (.func (.func 74) #[] #[]), .v (.func (.func 42) #[] #[]), .v (.nilFunc), .v (.nilFunc), .v (.nilFunc), .v (.nilFunc)]) rfl rfl rfl rfl rfl rfl).trans ((fills_cons 7 1 (m := [.v (.func (.func 75) #[] #[])]) (z' := [.i .i64 48, .v (.func (.func 70) #[] #[]), .v (.func (.func 71) #[] #[]), .v (.func (.func 72) #[] #[]), .v (.func (.func 73) #[] #[]), .v (.func (.func 74) #[] #[]), .v (.func (.func 42) #[] #[]), .v (.func (.func 75) #[] #[]), .v (.nilFunc), .v (.nilFunc), .v (.nilFunc)]) rfl rfl rfl rfl rfl rfl).trans ((fills_cons 8 1 (m := [.v (.func (.func 76) #[] #[])]) (z' := [.i .i64 48, .v (.func (.func 70) #[] #[]), .v (.func (.func 71) #[] #[]), .v (.func (.func 72) #[] #[]), .v (.func (.func 73) #[] #[]), .v (.func (.func 74) #[] #[]), .v (.func (.func 42) #[] #[]), .v (.func (.func 75) #[] #[]), .v (.func (.func 76) #[] #[]), .v (.nilFunc), .v (.nilFunc)]) rfl rfl rfl rfl rfl rfl).trans ((fills_cons 9 1 (m := [.v (.func (.func 25) #[] #[])]) (z' := [.i .i64 48, .v (.func (.func 70) #[] #[]), .v (.func (.func 71) #[] #[]), .v (.func (.func 72) #[] #[]), .v (.func (.func 73) #[] #[]), .v (.func (.func 74) #[] #[]), .v (.func (.func 42) #[] #[]), .v (.func (.func 75) #[] #[]), .v (.func (.func 76) #[] #[]), .v (.func (.func 25) #[] #[]), .v (.nilFunc)]) rfl rfl rfl rfl rfl rfl).trans ((fills_cons 10 1 (m := [.v (.func (.func 11) #[] #[])]) (z' := cvS1) rfl rfl rfl rfl rfl rfl).trans rfl)))))))))))) ?_
    exact latq 0 11 flCv1.2 A2 .nil
  intro w4 w4_ hb4 hs4 HB8
  have A5 := A2.keep hb4.out
  have A7 := hs4.here 0 11 (l' := cvS1) A5 rfl rfl rfl
  exact wpr (ret1 Tryz.results28 (res_sv rfl A7 flCv1 rfl)) HB8
theorem pt1parts_v (x : Nat) (y : Nat) (i : Bool) : CI 76 #[sv [.n 6 x, .n 6 y, .b i]] (.tuple #[nv 6 [x], nv 6 [y], .bool i]) := fun w => by
  go_enter Tryz.func76, Tryz.ntmps76
  refine rh3 (brf w) 26 0 [.n 6 x, .n 6 y, .b i] 24 1 [.n 6 0] 24 2 [.n 6 0] [1, 2, 3, 4] (fun γ => [pz (γ 0), pz (γ 1), pz (γ 2), .bool false]) ?_ ?_
  · refine stpb 0 (fun γ w h => ex_boxs (l := [.n 6 x, .n 6 y, .b i]) rfl) ?_
    refine stpb 1 (fun γ w h => ex_allocsn (K := 6) (l := [0]) zFp) ?_
    refine stpb 2 (fun γ w h => ex_allocsn (K := 6) (l := [0]) zFp) ?_
    exact stpa .nil
  intro γ1 w1 hb1 A2 A3 A4 _ le3 le4 hn1 HB5
  refine wp_seq (region_m2 (F := fun _ => ⟨#[sv [.n 6 x, .n 6 y, .b i], pz (γ1 0), pz (γ1 1), pz (γ1 2), .bool i, pz (γ1 0), nv 6 [x], pq (γ1 0) 6, nv 6 [y], pq (γ1 0) 12, .bool i], []⟩) 6 ((γ1 1)) 0 (segs [.n 6 x]) 7 ((γ1 2)) 0 (segs [.n 6 y]) 0 (fun _ => 0) (fun _ => 0) (fun _ => 0) (fun _ => []) (fun _ => []) [5, 6, 7, 8, 9, 10, 4] (.inl ⟨rfl, by kernel_rfl⟩) (by kernel_rfl) rfl rfl rfl ?_ ?_)
  · refine GSteps.cons (late_step (late_step (gm_valg (fun γ => pz (γ1 0)) rfl (fun _ => rfl) (fun _ => rfl) (fun γ w h => ex_field faG1_0 rfl) rfl) (by kernel_rfl) rfl) (by kernel_rfl) rfl) ?_
    refine GSteps.cons (late_step (late_step (gm_val (v := nv 6 [x]) rfl (fun _ => rfl) (fun _ => rfl) (fun γ w h => ex_loadsn (K := 6) 0 1 (m := [x]) flFp rfl rfl (A2.keep h.out) rfl rfl) rfl) (by kernel_rfl) rfl) (by kernel_rfl) rfl) ?_
    refine GSteps.cons (late_any2 (v := pq (γ1 0) 6) rfl (fun _ => rfl) (fun _ => rfl) (fun γ w h => ex_field faG1_1 rfl) rfl rfl rfl) ?_
    refine GSteps.cons (late_any2 (v := nv 6 [y]) rfl (fun _ => rfl) (fun _ => rfl) (fun γ w h => ex_loadsn (K := 6) 1 1 (m := [y]) flFp rfl rfl (h _ _ _ (hn1 0 1 (by decide) (by decide) (by decide)) (hn1 0 2 (by decide) (by decide) (by decide)) A2) rfl rfl) rfl rfl rfl) ?_
    refine GSteps.cons (late_any2 (v := pq (γ1 0) 12) rfl (fun _ => rfl) (fun _ => rfl) (fun γ w h => ex_field faG1_2 rfl) rfl rfl rfl) ?_
    refine GSteps.cons (late_any2 (v := .bool i) rfl (fun _ => rfl) (fun _ => rfl) (fun γ w h => ex_load1 2 (s := .b i) (v := .bool i) sgBool rfl (h _ _ _ (hn1 0 1 (by decide) (by decide) (by decide)) (hn1 0 2 (by decide) (by decide) (by decide)) A2) rfl rfl rfl) rfl rfl rfl) ?_
    refine GSteps.cons (late_step (late_store rfl (fun _ => rfl) (fun γ w h => ex_stores 0 1 (l := [.n 6 0]) (m := [.n 6 x]) flFp.2 rfl rfl rfl (nv_cells 6 [x]) (A3.keep h.out) rfl rfl) rfl) (by kernel_rfl) rfl) ?_
    refine GSteps.cons (late_store2 rfl (fun _ => rfl) (fun γ w w1 h hs => ex_stores 0 1 (l := [.n 6 0]) (m := [.n 6 y]) flFp.2 rfl rfl rfl (nv_cells 6 [y]) (hs.other (Ne.symm (hn1 1 2 (by decide) (by decide) (by decide))) (A4.keep h.out)) rfl rfl) rfl rfl rfl (by kernel_rfl)) ?_
    refine GSteps.cons (late_any2 (v := .bool i) rfl (fun _ => rfl) (fun _ => rfl) (fun γ w h => ex_assign _) rfl rfl rfl) ?_
    exact GSteps.nil
  intro _ w6 w6_ w6__ hb6 _ _ hs6 hs6_
  refine th_r ?_
  have A8 := A3.keep hb6.out
  have A9 := A4.keep hb6.out
  have HB10 := below_then HB5 hb6.out
  have A12 := hs6.here 0 1 (l' := [.n 6 x]) A8 rfl rfl rfl
  have A13 := hs6.other (Ne.symm (hn1 1 2 (by decide) (by decide) (by decide))) A9
  have HB14 := hs6.below HB10 (Nat.le_trans (Nat.le_refl _) le3)
  have A16 := hs6_.other (hn1 1 2 (by decide) (by decide) (by decide)) A12
  have A17 := hs6_.here 0 1 (l' := [.n 6 y]) A13 rfl rfl rfl
  have HB18 := hs6_.below HB14 (Nat.le_trans (Nat.le_refl _) le4)
  exact wpr (ret3 Tryz.results76 (res_nv (K := 6) (l := [x]) rfl A16 flFp rfl) (res_nv (K := 6) (l := [y]) rfl A17 flFp rfl) (res_tmp rfl)) HB18
theorem pt1check_no (x : Nat) (y : Nat) (i : Bool) (hx : x < fpB) (hy : y < fpB) (h0 : ¬ RawOk x y i) : CI 77 #[sv cvS1, sv [.n 6 x, .n 6 y, .b i]] (.int .i64 30) := fun w => by
  go_enter Tryz.func77, Tryz.ntmps77
  refine rh2 (brf w) (68) 0 cvS1 26 1 [.n 6 x, .n 6 y, .b i] [2, 3, 4] (fun γ => [pz (γ 0), pz (γ 1), .int .i64 0]) ?_ ?_
  · refine stpb 0 (fun γ w h => ex_boxs (l := cvS1) rfl) ?_
    refine stpb 1 (fun γ w h => ex_boxs (l := [.n 6 x, .n 6 y, .b i]) rfl) ?_
    exact stpa .nil
  intro γ1 w1 hb1 A2 A3 _ _ hn1 HB4
  refine wp_seq ?_
  refine rh0 HB4 [5, 6, 7, 8, 9] [pq (γ1 0) 9, .func (.func 25) #[] #[], sv [.n 6 x, .n 6 y, .b i], .bool false, .bool true] ?_ ?_
  · refine stpx (fun _ _ => ex_field faCv1_9 rfl) ?_
    refine stpv (fun γ w h => ex_load1 9 (s := .v (.func (.func 25) #[] #[])) (v := .func (.func 25) #[] #[]) sgT11 rfl (A2.keep h.out) rfl rfl rfl) ?_
    refine stpv (fun γ w h => ex_loads 0 3 (m := [.n 6 x, .n 6 y, .b i]) flG1 rfl rfl (A3.keep h.out) rfl rfl) ?_
    refine stpk Tryz.call25 (fun w h => oneRight_no hx hy h0 _) ?_
    exact stpx (fun _ _ => ex_not (r := false) rfl) .nil
  intro w5 hb5 HB8
  refine wp_cond_true rfl ?_
  refine rh0 HB8 [4] [.int .i64 30] ?_ ?_
  · exact stpa .nil
  intro w9 hb9 HB12
  exact wprt (ret1 Tryz.results77 (res_tmp rfl)) HB12
theorem pt1check_out (P : E1) (hT : EP.times C1 rN P ≠ EP.zero) : CI 77 #[sv cvS1, sv [.n 6 (ax P.pt), .n 6 (ay P.pt), .b (ai P.pt)]] (.int .i64 31) := fun w => by
  go_enter Tryz.func77, Tryz.ntmps77
  refine rh2 (brf w) (68) 0 cvS1 26 1 [.n 6 (ax P.pt), .n 6 (ay P.pt), .b (ai P.pt)] [2, 3, 4] (fun γ => [pz (γ 0), pz (γ 1), .int .i64 0]) ?_ ?_
  · refine stpb 0 (fun γ w h => ex_boxs (l := cvS1) rfl) ?_
    refine stpb 1 (fun γ w h => ex_boxs (l := [.n 6 (ax P.pt), .n 6 (ay P.pt), .b (ai P.pt)]) rfl) ?_
    exact stpa .nil
  intro γ1 w1 hb1 A2 A3 _ _ hn1 HB4
  refine wp_seq ?_
  refine rh0 HB4 [5, 6, 7, 8, 9] [pq (γ1 0) 9, .func (.func 25) #[] #[], sv [.n 6 (ax P.pt), .n 6 (ay P.pt), .b (ai P.pt)], .bool true, .bool false] ?_ ?_
  · refine stpx (fun _ _ => ex_field faCv1_9 rfl) ?_
    refine stpv (fun γ w h => ex_load1 9 (s := .v (.func (.func 25) #[] #[])) (v := .func (.func 25) #[] #[]) sgT11 rfl (A2.keep h.out) rfl rfl rfl) ?_
    refine stpv (fun γ w h => ex_loads 0 3 (m := [.n 6 (ax P.pt), .n 6 (ay P.pt), .b (ai P.pt)]) flG1 rfl rfl (A3.keep h.out) rfl rfl) ?_
    refine stpk Tryz.call25 (fun w h => oneRight_p P _) ?_
    exact stpx (fun _ _ => ex_not (r := true) rfl) .nil
  intro w5 hb5 HB8
  have A6 := A2.keep hb5.out
  have A7 := A3.keep hb5.out
  refine wp_cond_false rfl ?_
  refine wp_skip ?_
  refine th_r ?_
  refine wp_seq ?_
  refine rh0 HB8 [10, 11, 12, 13, 14] [pq (γ1 0) 10, .func (.func 11) #[] #[], sv [.n 6 (ax P.pt), .n 6 (ay P.pt), .b (ai P.pt)], .bool false, .bool true] ?_ ?_
  · refine stpx (fun _ _ => ex_field faCv1_10 rfl) ?_
    refine stpv (fun γ w h => ex_load1 10 (s := .v (.func (.func 11) #[] #[])) (v := .func (.func 11) #[] #[]) sgT11 rfl (A6.keep h.out) rfl rfl rfl) ?_
    refine stpv (fun γ w h => ex_loads 0 3 (m := [.n 6 (ax P.pt), .n 6 (ay P.pt), .b (ai P.pt)]) flG1 rfl rfl (A7.keep h.out) rfl rfl) ?_
    refine stpk Tryz.call11 (fun w h => oneGroup_q P false ⟨fun e => Bool.noConfusion e, fun e => absurd e hT⟩ _) ?_
    exact stpx (fun _ _ => ex_not (r := false) rfl) .nil
  intro w9 hb9 HB12
  refine wp_cond_true rfl ?_
  refine rh0 HB12 [4] [.int .i64 31] ?_ ?_
  · exact stpa .nil
  intro w13 hb13 HB16
  exact wprt (ret1 Tryz.results77 (res_tmp rfl)) HB16
theorem pt1check_in (P : E1) (hT : EP.times C1 rN P = EP.zero) : CI 77 #[sv cvS1, sv [.n 6 (ax P.pt), .n 6 (ay P.pt), .b (ai P.pt)]] (.int .i64 0) := fun w => by
  go_enter Tryz.func77, Tryz.ntmps77
  refine rh2 (brf w) (68) 0 cvS1 26 1 [.n 6 (ax P.pt), .n 6 (ay P.pt), .b (ai P.pt)] [2, 3, 4] (fun γ => [pz (γ 0), pz (γ 1), .int .i64 0]) ?_ ?_
  · refine stpb 0 (fun γ w h => ex_boxs (l := cvS1) rfl) ?_
    refine stpb 1 (fun γ w h => ex_boxs (l := [.n 6 (ax P.pt), .n 6 (ay P.pt), .b (ai P.pt)]) rfl) ?_
    exact stpa .nil
  intro γ1 w1 hb1 A2 A3 _ _ hn1 HB4
  refine wp_seq ?_
  refine rh0 HB4 [5, 6, 7, 8, 9] [pq (γ1 0) 9, .func (.func 25) #[] #[], sv [.n 6 (ax P.pt), .n 6 (ay P.pt), .b (ai P.pt)], .bool true, .bool false] ?_ ?_
  · refine stpx (fun _ _ => ex_field faCv1_9 rfl) ?_
    refine stpv (fun γ w h => ex_load1 9 (s := .v (.func (.func 25) #[] #[])) (v := .func (.func 25) #[] #[]) sgT11 rfl (A2.keep h.out) rfl rfl rfl) ?_
    refine stpv (fun γ w h => ex_loads 0 3 (m := [.n 6 (ax P.pt), .n 6 (ay P.pt), .b (ai P.pt)]) flG1 rfl rfl (A3.keep h.out) rfl rfl) ?_
    refine stpk Tryz.call25 (fun w h => oneRight_p P _) ?_
    exact stpx (fun _ _ => ex_not (r := true) rfl) .nil
  intro w5 hb5 HB8
  have A6 := A2.keep hb5.out
  have A7 := A3.keep hb5.out
  refine wp_cond_false rfl ?_
  refine wp_skip ?_
  refine th_r ?_
  refine wp_seq ?_
  refine rh0 HB8 [10, 11, 12, 13, 14] [pq (γ1 0) 10, .func (.func 11) #[] #[], sv [.n 6 (ax P.pt), .n 6 (ay P.pt), .b (ai P.pt)], .bool true, .bool false] ?_ ?_
  · refine stpx (fun _ _ => ex_field faCv1_10 rfl) ?_
    refine stpv (fun γ w h => ex_load1 10 (s := .v (.func (.func 11) #[] #[])) (v := .func (.func 11) #[] #[]) sgT11 rfl (A6.keep h.out) rfl rfl rfl) ?_
    refine stpv (fun γ w h => ex_loads 0 3 (m := [.n 6 (ax P.pt), .n 6 (ay P.pt), .b (ai P.pt)]) flG1 rfl rfl (A7.keep h.out) rfl rfl) ?_
    refine stpk Tryz.call11 (fun w h => oneGroup_q P true ⟨fun _ => hT, fun _ => rfl⟩ _) ?_
    exact stpx (fun _ _ => ex_not (r := true) rfl) .nil
  intro w9 hb9 HB12
  refine wp_cond_false rfl ?_
  refine wp_skip ?_
  refine th_r ?_
  refine rh0 HB12 [4] [.int .i64 0] ?_ ?_
  · exact stpa .nil
  intro w13 hb13 HB16
  exact wpr (ret1 Tryz.results77 (res_tmp rfl)) HB16
theorem fpPut_l (a : Nat) (ha : a < pN) (w : World) : Calls Tryz.prog 70 #[nv 6 [a]] w (Is (str ((be 48 a))) w) := by
  rw [nv6]
  have h := fpPut_v a w (Nat.lt_trans ha fpM_lt)
  rw [Nat.mod_eq_of_lt ha] at h
  exact h
theorem pt1put_nom (x : Nat) (y : Nat) (i : Bool) (hx : x < fpB) (hy : y < fpB) (h0 : ¬ RawOk x y i) : CI 29 #[sv cvS1, sv [.n 6 x, .n 6 y, .b i]] (.tuple #[str [], .int .i64 30]) := fun w => by
  go_enter Tryz.func29, Tryz.ntmps29
  refine rh2 (brf w) (68) 0 cvS1 26 1 [.n 6 x, .n 6 y, .b i] [2, 3, 4, 5] (fun γ => [pz (γ 0), pz (γ 1), str [], .int .i64 0]) ?_ ?_
  · refine stpb 0 (fun γ w h => ex_boxs (l := cvS1) rfl) ?_
    refine stpb 1 (fun γ w h => ex_boxs (l := [.n 6 x, .n 6 y, .b i]) rfl) ?_
    refine stpa ?_
    exact stpa .nil
  intro γ1 w1 hb1 A2 A3 _ _ hn1 HB4
  refine wp_seq ?_
  refine rh0 HB4 [11, 12, 13, 6] [sv cvS1, sv [.n 6 x, .n 6 y, .b i], .int .i64 30, .int .i64 30] ?_ ?_
  · refine stpv (fun γ w h => ex_loads 0 11 (m := cvS1) flCv1 rfl rfl (A2.keep h.out) rfl rfl) ?_
    refine stpv (fun γ w h => ex_loads 0 3 (m := [.n 6 x, .n 6 y, .b i]) flG1 rfl rfl (A3.keep h.out) rfl rfl) ?_
    refine stpk Tryz.call77 (fun w h => pt1check_no x y i hx hy h0 _) ?_
    exact stpa .nil
  intro w5 hb5 HB8
  refine rh0 HB8 [14, 15] [.int .i64 30, .bool true] ?_ ?_
  · refine stpm ?_
    exact stpx (fun _ _ => ex_neqi rfl rfl _ rfl) .nil
  intro w9 hb9 HB12
  refine wp_cond_true rfl ?_
  refine rh0 HB12 [16, 4, 5] [.int .i64 30, str [], .int .i64 30] ?_ ?_
  · refine stpm ?_
    refine stpa ?_
    exact stpa .nil
  intro w13 hb13 HB16
  exact wprt (ret2 Tryz.results29 (res_tmp rfl) (res_tmp rfl)) HB16
theorem pt1put_no (x : Nat) (y : Nat) (i : Bool) (hx : x < fpB) (hy : y < fpB) (h0 : ¬ RawOk x y i) : CI 6 #[sv [.n 6 x, .n 6 y, .b i]] (.tuple #[str [], .int .i64 30]) := fun w => by
  go_enter Tryz.func6, Tryz.ntmps6
  refine rh1 (brf w) 26 0 [.n 6 x, .n 6 y, .b i] [1, 2, 3] (fun γ => [pz (γ 0), str [], .int .i64 0]) ?_ ?_
  · refine stpb 0 (fun γ w h => ex_boxs (l := [.n 6 x, .n 6 y, .b i]) rfl) ?_
    refine stpa ?_
    exact stpa .nil
  intro γ1 w1 hb1 A2 _ HB3
  refine rh0 HB3 [4, 5, 6, 7, 8, 2, 3] [sv cvS1, sv [.n 6 x, .n 6 y, .b i], .tuple #[str [], .int .i64 30], str [], .int .i64 30, str [], .int .i64 30] ?_ ?_
  · refine stpk Tryz.call28 (fun w h => pt1first_v _) ?_
    refine stpv (fun γ w h => ex_loads 0 3 (m := [.n 6 x, .n 6 y, .b i]) flG1 rfl rfl (A2.keep h.out) rfl rfl) ?_
    refine stpk Tryz.call29 (fun w h => pt1put_nom x y i hx hy h0 _) ?_
    refine stpx (fun _ _ => ex_extract rfl rfl) ?_
    refine stpx (fun _ _ => ex_extract rfl rfl) ?_
    refine stpa ?_
    exact stpa .nil
  intro w4 hb4 HB6
  exact wpr (ret2 Tryz.results6 (res_tmp rfl) (res_tmp rfl)) HB6
theorem pt1put_outm (P : E1) (hT : EP.times C1 rN P ≠ EP.zero) : CI 29 #[sv cvS1, sv [.n 6 (ax P.pt), .n 6 (ay P.pt), .b (ai P.pt)]] (.tuple #[str [], .int .i64 31]) := fun w => by
  go_enter Tryz.func29, Tryz.ntmps29
  refine rh2 (brf w) (68) 0 cvS1 26 1 [.n 6 (ax P.pt), .n 6 (ay P.pt), .b (ai P.pt)] [2, 3, 4, 5] (fun γ => [pz (γ 0), pz (γ 1), str [], .int .i64 0]) ?_ ?_
  · refine stpb 0 (fun γ w h => ex_boxs (l := cvS1) rfl) ?_
    refine stpb 1 (fun γ w h => ex_boxs (l := [.n 6 (ax P.pt), .n 6 (ay P.pt), .b (ai P.pt)]) rfl) ?_
    refine stpa ?_
    exact stpa .nil
  intro γ1 w1 hb1 A2 A3 _ _ hn1 HB4
  refine wp_seq ?_
  refine rh0 HB4 [11, 12, 13, 6] [sv cvS1, sv [.n 6 (ax P.pt), .n 6 (ay P.pt), .b (ai P.pt)], .int .i64 31, .int .i64 31] ?_ ?_
  · refine stpv (fun γ w h => ex_loads 0 11 (m := cvS1) flCv1 rfl rfl (A2.keep h.out) rfl rfl) ?_
    refine stpv (fun γ w h => ex_loads 0 3 (m := [.n 6 (ax P.pt), .n 6 (ay P.pt), .b (ai P.pt)]) flG1 rfl rfl (A3.keep h.out) rfl rfl) ?_
    refine stpk Tryz.call77 (fun w h => pt1check_out P hT _) ?_
    exact stpa .nil
  intro w5 hb5 HB8
  refine rh0 HB8 [14, 15] [.int .i64 31, .bool true] ?_ ?_
  · refine stpm ?_
    exact stpx (fun _ _ => ex_neqi rfl rfl _ rfl) .nil
  intro w9 hb9 HB12
  refine wp_cond_true rfl ?_
  refine rh0 HB12 [16, 4, 5] [.int .i64 31, str [], .int .i64 31] ?_ ?_
  · refine stpm ?_
    refine stpa ?_
    exact stpa .nil
  intro w13 hb13 HB16
  exact wprt (ret2 Tryz.results29 (res_tmp rfl) (res_tmp rfl)) HB16
theorem pt1put_out (P : E1) (hT : EP.times C1 rN P ≠ EP.zero) : CI 6 #[sv [.n 6 (ax P.pt), .n 6 (ay P.pt), .b (ai P.pt)]] (.tuple #[str [], .int .i64 31]) := fun w => by
  go_enter Tryz.func6, Tryz.ntmps6
  refine rh1 (brf w) 26 0 [.n 6 (ax P.pt), .n 6 (ay P.pt), .b (ai P.pt)] [1, 2, 3] (fun γ => [pz (γ 0), str [], .int .i64 0]) ?_ ?_
  · refine stpb 0 (fun γ w h => ex_boxs (l := [.n 6 (ax P.pt), .n 6 (ay P.pt), .b (ai P.pt)]) rfl) ?_
    refine stpa ?_
    exact stpa .nil
  intro γ1 w1 hb1 A2 _ HB3
  refine rh0 HB3 [4, 5, 6, 7, 8, 2, 3] [sv cvS1, sv [.n 6 (ax P.pt), .n 6 (ay P.pt), .b (ai P.pt)], .tuple #[str [], .int .i64 31], str [], .int .i64 31, str [], .int .i64 31] ?_ ?_
  · refine stpk Tryz.call28 (fun w h => pt1first_v _) ?_
    refine stpv (fun γ w h => ex_loads 0 3 (m := [.n 6 (ax P.pt), .n 6 (ay P.pt), .b (ai P.pt)]) flG1 rfl rfl (A2.keep h.out) rfl rfl) ?_
    refine stpk Tryz.call29 (fun w h => pt1put_outm P hT _) ?_
    refine stpx (fun _ _ => ex_extract rfl rfl) ?_
    refine stpx (fun _ _ => ex_extract rfl rfl) ?_
    refine stpa ?_
    exact stpa .nil
  intro w4 hb4 HB6
  exact wpr (ret2 Tryz.results6 (res_tmp rfl) (res_tmp rfl)) HB6
theorem pt1put_in_m (x : Nat) (y : Nat) (i : Bool) (hC : CI 77 #[sv cvS1, sv [.n 6 x, .n 6 y, .b i]] (.int .i64 0)) (X : List UInt8) (hX : CI 70 #[nv 6 [x]] (str X)) (hL : Led X) (hn : X.length ≤ 200) (u : Bool) (hH : CI 72 #[nv 6 [y]] (.bool u)) : CI 29 #[sv cvS1, sv [.n 6 x, .n 6 y, .b i]] (.tuple #[str ((mark (fk true i u) X)), .int .i64 0]) := fun w => by
  go_enter Tryz.func29, Tryz.ntmps29
  refine rh2 (brf w) (68) 0 cvS1 26 1 [.n 6 x, .n 6 y, .b i] [2, 3, 4, 5] (fun γ => [pz (γ 0), pz (γ 1), str [], .int .i64 0]) ?_ ?_
  · refine stpb 0 (fun γ w h => ex_boxs (l := cvS1) rfl) ?_
    refine stpb 1 (fun γ w h => ex_boxs (l := [.n 6 x, .n 6 y, .b i]) rfl) ?_
    refine stpa ?_
    exact stpa .nil
  intro γ1 w1 hb1 A2 A3 _ _ hn1 HB4
  refine wp_seq ?_
  refine rh0 HB4 [11, 12, 13, 6] [sv cvS1, sv [.n 6 x, .n 6 y, .b i], .int .i64 0, .int .i64 0] ?_ ?_
  · refine stpv (fun γ w h => ex_loads 0 11 (m := cvS1) flCv1 rfl rfl (A2.keep h.out) rfl rfl) ?_
    refine stpv (fun γ w h => ex_loads 0 3 (m := [.n 6 x, .n 6 y, .b i]) flG1 rfl rfl (A3.keep h.out) rfl rfl) ?_
    refine stpk Tryz.call77 (fun w h => hC _) ?_
    exact stpa .nil
  intro w5 hb5 HB8
  have A6 := A2.keep hb5.out
  have A7 := A3.keep hb5.out
  refine rh0 HB8 [14, 15] [.int .i64 0, .bool false] ?_ ?_
  · refine stpm ?_
    exact stpx (fun _ _ => ex_neqi rfl rfl _ rfl) .nil
  intro w9 hb9 HB12
  have A10 := A6.keep hb9.out
  have A11 := A7.keep hb9.out
  refine wp_cond_false rfl ?_
  refine wp_skip ?_
  refine th_r ?_
  refine rhc HB12 [(24, 8, 10, [.n 6 0], [.n 6 x]), (24, 9, 11, [.n 6 0], [.n 6 y])] [18, 19, 20, 21, 17, 22, 23, 24, 7, 8, 9] (fun γ => [pq (γ1 0) 8, .func (.func 76) #[] #[], sv [.n 6 x, .n 6 y, .b i], .tuple #[nv 6 [x], nv 6 [y], .bool i], .tuple #[nv 6 [x], nv 6 [y], .bool i], nv 6 [x], nv 6 [y], .bool i, pz (γ 0), pz (γ 1), .bool i]) ?_ ?_
  · refine stpx (fun _ _ => ex_field faCv1_8 rfl) ?_
    refine stpv (fun γ w h => ex_load1 8 (s := .v (.func (.func 76) #[] #[])) (v := .func (.func 76) #[] #[]) sgT10 rfl (A10.keep h.out) rfl rfl rfl) ?_
    refine stpv (fun γ w h => ex_loads 0 3 (m := [.n 6 x, .n 6 y, .b i]) flG1 rfl rfl (A11.keep h.out) rfl rfl) ?_
    refine stpk Tryz.call76 (fun w h => pt1parts_v x y i _) ?_
    refine stpm ?_
    refine stpx (fun _ _ => ex_extract rfl rfl) ?_
    refine stpx (fun _ _ => ex_extract rfl rfl) ?_
    refine stpx (fun _ _ => ex_extract rfl rfl) ?_
    refine stpn 0 (fun γ w => ex_allocsn (K := 6) (l := [0]) zFp) ?_
    refine stpn 1 (fun γ w => ex_allocsn (K := 6) (l := [0]) zFp) ?_
    refine stpo 0 0 1 flFp.2 (nv_cells 6 [x]) ?_
    refine stpo 1 0 1 flFp.2 (nv_cells 6 [y]) ?_
    exact stpa .nil
  intro γ13 w13 hb13 hB13 hn13 HB18
  have A14 := A10.keep hb13.out
  have A16 : SB 24 w13 (γ13 0) [.n 6 x] := (hB13 0 rfl).2
  have A17 : SB 24 w13 (γ13 1) [.n 6 y] := (hB13 1 rfl).2
  refine rh0 HB18 [25, 26, 27, 28, 29, 30, 31, 32, 33, 10] [.bool i, .int .u8 ((32 * fk false i false : Nat) : Int), .int .u8 ((32 * fk true i false : Nat) : Int), pq (γ1 0) 3, .func (.func 72) #[] #[], nv 6 [y], .bool u, .int .u8 ((32 * fk false false u : Nat) : Int), .int .u8 ((32 * fk true i u : Nat) : Int), .int .u8 ((32 * fk true i u : Nat) : Int)] ?_ ?_
  · refine stpm ?_
    refine stpk Tryz.call78 (fun w h => ptflag_64 i _) ?_
    refine stpx (fun _ _ => ex_bitsor rfl rfl _ (or_128 i)) ?_
    refine stpx (fun _ _ => ex_field faCv1_3 rfl) ?_
    refine stpv (fun γ w h => ex_load1 3 (s := .v (.func (.func 72) #[] #[])) (v := .func (.func 72) #[] #[]) sgT5 rfl (A14.keep h.out) rfl rfl rfl) ?_
    refine stpl 0 1 flFp A17 ?_
    refine stpk Tryz.call72 (fun w h => hH _) ?_
    refine stpk Tryz.call78 (fun w h => ptflag_32 u _) ?_
    refine stpx (fun _ _ => ex_bitsor rfl rfl _ (or_32 i u)) ?_
    exact stpa .nil
  intro w19 hb19 HB24
  have A20 := A14.keep hb19.out
  have A22 := A16.keep hb19.out
  refine rh0 HB24 [34, 35, 36, 37, 38, 39, 4, 5] [pq (γ1 0) 1, .func (.func 70) #[] #[], nv 6 [x], str X, .int .u8 ((32 * fk true i u : Nat) : Int), str ((mark (fk true i u) X)), str ((mark (fk true i u) X)), .int .i64 0] ?_ ?_
  · refine stpx (fun _ _ => ex_field faCv1_1 rfl) ?_
    refine stpv (fun γ w h => ex_load1 1 (s := .v (.func (.func 70) #[] #[])) (v := .func (.func 70) #[] #[]) sgT3 rfl (A20.keep h.out) rfl rfl rfl) ?_
    refine stpl 0 1 flFp A22 ?_
    refine stpk Tryz.call70 (fun w h => hX _) ?_
    refine stpm ?_
    refine stpc (str ((mark (fk true i u) X))) (fun γ w => ex_call (vs := [str X, .int .u8 ((32 * fk true i u : Nat) : Int)]) rfl Tryz.call79 rfl) (fun w h => ptmarked_q X hL (by omega) _ (fk_lt _ _ _) _) ?_
    refine stpa ?_
    exact stpa .nil
  intro w25 hb25 HB30
  exact wpr (ret2 Tryz.results29 (res_tmp rfl) (res_tmp rfl)) HB30
theorem pt1put_l (x : Nat) (y : Nat) (i : Bool) (R : List UInt8) (hM : CI 29 #[sv cvS1, sv [.n 6 x, .n 6 y, .b i]] (.tuple #[str R, .int .i64 0])) : CI 6 #[sv [.n 6 x, .n 6 y, .b i]] (.tuple #[str R, .int .i64 0]) := fun w => by
  go_enter Tryz.func6, Tryz.ntmps6
  refine rh1 (brf w) 26 0 [.n 6 x, .n 6 y, .b i] [1, 2, 3] (fun γ => [pz (γ 0), str [], .int .i64 0]) ?_ ?_
  · refine stpb 0 (fun γ w h => ex_boxs (l := [.n 6 x, .n 6 y, .b i]) rfl) ?_
    refine stpa ?_
    exact stpa .nil
  intro γ1 w1 hb1 A2 _ HB3
  refine rh0 HB3 [4, 5, 6, 7, 8, 2, 3] [sv cvS1, sv [.n 6 x, .n 6 y, .b i], .tuple #[str R, .int .i64 0], str R, .int .i64 0, str R, .int .i64 0] ?_ ?_
  · refine stpk Tryz.call28 (fun w h => pt1first_v _) ?_
    refine stpv (fun γ w h => ex_loads 0 3 (m := [.n 6 x, .n 6 y, .b i]) flG1 rfl rfl (A2.keep h.out) rfl rfl) ?_
    refine stpk Tryz.call29 (fun w h => hM _) ?_
    refine stpx (fun _ _ => ex_extract rfl rfl) ?_
    refine stpx (fun _ _ => ex_extract rfl rfl) ?_
    refine stpa ?_
    exact stpa .nil
  intro w4 hb4 HB6
  exact wpr (ret2 Tryz.results6 (res_tmp rfl) (res_tmp rfl)) HB6
theorem pt1put_in (P : E1) (hT : EP.times C1 rN P = EP.zero) (w : World) : Calls Tryz.prog 6 #[sv [.n 6 (ax P.pt), .n 6 (ay P.pt), .b (ai P.pt)]] w (Is (.tuple #[str ((mark (fk true (ai P.pt) (pHigh (ay P.pt))) (be 48 (ax P.pt)))), .int .i64 0]) w) :=
  pt1put_l (ax P.pt) (ay P.pt) (ai P.pt) _ (fun w => pt1put_in_m (ax P.pt) (ay P.pt) (ai P.pt) (fun _ => pt1check_in P hT _) _ (fun _ => fpPut_l (ax P.pt) (ax_P _) _) (led_be (ax_P _)) (by simp only [length_be]; decide) _ (fun _ => fpHigh_v (ay P.pt) _ (ay_B _) (pHigh (ay P.pt)) rfl) w) w
theorem pt1wide_nom (x : Nat) (y : Nat) (i : Bool) (hx : x < fpB) (hy : y < fpB) (h0 : ¬ RawOk x y i) : CI 30 #[sv cvS1, sv [.n 6 x, .n 6 y, .b i]] (.tuple #[str [], .int .i64 30]) := fun w => by
  go_enter Tryz.func30, Tryz.ntmps30
  refine rh2 (brf w) (68) 0 cvS1 26 1 [.n 6 x, .n 6 y, .b i] [2, 3, 4, 5] (fun γ => [pz (γ 0), pz (γ 1), str [], .int .i64 0]) ?_ ?_
  · refine stpb 0 (fun γ w h => ex_boxs (l := cvS1) rfl) ?_
    refine stpb 1 (fun γ w h => ex_boxs (l := [.n 6 x, .n 6 y, .b i]) rfl) ?_
    refine stpa ?_
    exact stpa .nil
  intro γ1 w1 hb1 A2 A3 _ _ hn1 HB4
  refine wp_seq ?_
  refine rh0 HB4 [10, 11, 12, 6] [sv cvS1, sv [.n 6 x, .n 6 y, .b i], .int .i64 30, .int .i64 30] ?_ ?_
  · refine stpv (fun γ w h => ex_loads 0 11 (m := cvS1) flCv1 rfl rfl (A2.keep h.out) rfl rfl) ?_
    refine stpv (fun γ w h => ex_loads 0 3 (m := [.n 6 x, .n 6 y, .b i]) flG1 rfl rfl (A3.keep h.out) rfl rfl) ?_
    refine stpk Tryz.call77 (fun w h => pt1check_no x y i hx hy h0 _) ?_
    exact stpa .nil
  intro w5 hb5 HB8
  refine rh0 HB8 [13, 14] [.int .i64 30, .bool true] ?_ ?_
  · refine stpm ?_
    exact stpx (fun _ _ => ex_neqi rfl rfl _ rfl) .nil
  intro w9 hb9 HB12
  refine wp_cond_true rfl ?_
  refine rh0 HB12 [15, 4, 5] [.int .i64 30, str [], .int .i64 30] ?_ ?_
  · refine stpm ?_
    refine stpa ?_
    exact stpa .nil
  intro w13 hb13 HB16
  exact wprt (ret2 Tryz.results30 (res_tmp rfl) (res_tmp rfl)) HB16
theorem pt1wide_no (x : Nat) (y : Nat) (i : Bool) (hx : x < fpB) (hy : y < fpB) (h0 : ¬ RawOk x y i) : CI 7 #[sv [.n 6 x, .n 6 y, .b i]] (.tuple #[str [], .int .i64 30]) := fun w => by
  go_enter Tryz.func7, Tryz.ntmps7
  refine rh1 (brf w) 26 0 [.n 6 x, .n 6 y, .b i] [1, 2, 3] (fun γ => [pz (γ 0), str [], .int .i64 0]) ?_ ?_
  · refine stpb 0 (fun γ w h => ex_boxs (l := [.n 6 x, .n 6 y, .b i]) rfl) ?_
    refine stpa ?_
    exact stpa .nil
  intro γ1 w1 hb1 A2 _ HB3
  refine rh0 HB3 [4, 5, 6, 7, 8, 2, 3] [sv cvS1, sv [.n 6 x, .n 6 y, .b i], .tuple #[str [], .int .i64 30], str [], .int .i64 30, str [], .int .i64 30] ?_ ?_
  · refine stpk Tryz.call28 (fun w h => pt1first_v _) ?_
    refine stpv (fun γ w h => ex_loads 0 3 (m := [.n 6 x, .n 6 y, .b i]) flG1 rfl rfl (A2.keep h.out) rfl rfl) ?_
    refine stpk Tryz.call30 (fun w h => pt1wide_nom x y i hx hy h0 _) ?_
    refine stpx (fun _ _ => ex_extract rfl rfl) ?_
    refine stpx (fun _ _ => ex_extract rfl rfl) ?_
    refine stpa ?_
    exact stpa .nil
  intro w4 hb4 HB6
  exact wpr (ret2 Tryz.results7 (res_tmp rfl) (res_tmp rfl)) HB6
theorem pt1wide_outm (P : E1) (hT : EP.times C1 rN P ≠ EP.zero) : CI 30 #[sv cvS1, sv [.n 6 (ax P.pt), .n 6 (ay P.pt), .b (ai P.pt)]] (.tuple #[str [], .int .i64 31]) := fun w => by
  go_enter Tryz.func30, Tryz.ntmps30
  refine rh2 (brf w) (68) 0 cvS1 26 1 [.n 6 (ax P.pt), .n 6 (ay P.pt), .b (ai P.pt)] [2, 3, 4, 5] (fun γ => [pz (γ 0), pz (γ 1), str [], .int .i64 0]) ?_ ?_
  · refine stpb 0 (fun γ w h => ex_boxs (l := cvS1) rfl) ?_
    refine stpb 1 (fun γ w h => ex_boxs (l := [.n 6 (ax P.pt), .n 6 (ay P.pt), .b (ai P.pt)]) rfl) ?_
    refine stpa ?_
    exact stpa .nil
  intro γ1 w1 hb1 A2 A3 _ _ hn1 HB4
  refine wp_seq ?_
  refine rh0 HB4 [10, 11, 12, 6] [sv cvS1, sv [.n 6 (ax P.pt), .n 6 (ay P.pt), .b (ai P.pt)], .int .i64 31, .int .i64 31] ?_ ?_
  · refine stpv (fun γ w h => ex_loads 0 11 (m := cvS1) flCv1 rfl rfl (A2.keep h.out) rfl rfl) ?_
    refine stpv (fun γ w h => ex_loads 0 3 (m := [.n 6 (ax P.pt), .n 6 (ay P.pt), .b (ai P.pt)]) flG1 rfl rfl (A3.keep h.out) rfl rfl) ?_
    refine stpk Tryz.call77 (fun w h => pt1check_out P hT _) ?_
    exact stpa .nil
  intro w5 hb5 HB8
  refine rh0 HB8 [13, 14] [.int .i64 31, .bool true] ?_ ?_
  · refine stpm ?_
    exact stpx (fun _ _ => ex_neqi rfl rfl _ rfl) .nil
  intro w9 hb9 HB12
  refine wp_cond_true rfl ?_
  refine rh0 HB12 [15, 4, 5] [.int .i64 31, str [], .int .i64 31] ?_ ?_
  · refine stpm ?_
    refine stpa ?_
    exact stpa .nil
  intro w13 hb13 HB16
  exact wprt (ret2 Tryz.results30 (res_tmp rfl) (res_tmp rfl)) HB16
theorem pt1wide_out (P : E1) (hT : EP.times C1 rN P ≠ EP.zero) : CI 7 #[sv [.n 6 (ax P.pt), .n 6 (ay P.pt), .b (ai P.pt)]] (.tuple #[str [], .int .i64 31]) := fun w => by
  go_enter Tryz.func7, Tryz.ntmps7
  refine rh1 (brf w) 26 0 [.n 6 (ax P.pt), .n 6 (ay P.pt), .b (ai P.pt)] [1, 2, 3] (fun γ => [pz (γ 0), str [], .int .i64 0]) ?_ ?_
  · refine stpb 0 (fun γ w h => ex_boxs (l := [.n 6 (ax P.pt), .n 6 (ay P.pt), .b (ai P.pt)]) rfl) ?_
    refine stpa ?_
    exact stpa .nil
  intro γ1 w1 hb1 A2 _ HB3
  refine rh0 HB3 [4, 5, 6, 7, 8, 2, 3] [sv cvS1, sv [.n 6 (ax P.pt), .n 6 (ay P.pt), .b (ai P.pt)], .tuple #[str [], .int .i64 31], str [], .int .i64 31, str [], .int .i64 31] ?_ ?_
  · refine stpk Tryz.call28 (fun w h => pt1first_v _) ?_
    refine stpv (fun γ w h => ex_loads 0 3 (m := [.n 6 (ax P.pt), .n 6 (ay P.pt), .b (ai P.pt)]) flG1 rfl rfl (A2.keep h.out) rfl rfl) ?_
    refine stpk Tryz.call30 (fun w h => pt1wide_outm P hT _) ?_
    refine stpx (fun _ _ => ex_extract rfl rfl) ?_
    refine stpx (fun _ _ => ex_extract rfl rfl) ?_
    refine stpa ?_
    exact stpa .nil
  intro w4 hb4 HB6
  exact wpr (ret2 Tryz.results7 (res_tmp rfl) (res_tmp rfl)) HB6
theorem pt1wide_in_m (x : Nat) (y : Nat) (i : Bool) (hC : CI 77 #[sv cvS1, sv [.n 6 x, .n 6 y, .b i]] (.int .i64 0)) (X : List UInt8) (hX : CI 70 #[nv 6 [x]] (str X)) (hL : Led X) (hn : X.length ≤ 200) (Y : List UInt8) (hY : CI 70 #[nv 6 [y]] (str Y)) (hn' : Y.length ≤ 200) : CI 30 #[sv cvS1, sv [.n 6 x, .n 6 y, .b i]] (.tuple #[str ((mark (fk false i false) (X ++ Y))), .int .i64 0]) := fun w => by
  go_enter Tryz.func30, Tryz.ntmps30
  refine rh2 (brf w) (68) 0 cvS1 26 1 [.n 6 x, .n 6 y, .b i] [2, 3, 4, 5] (fun γ => [pz (γ 0), pz (γ 1), str [], .int .i64 0]) ?_ ?_
  · refine stpb 0 (fun γ w h => ex_boxs (l := cvS1) rfl) ?_
    refine stpb 1 (fun γ w h => ex_boxs (l := [.n 6 x, .n 6 y, .b i]) rfl) ?_
    refine stpa ?_
    exact stpa .nil
  intro γ1 w1 hb1 A2 A3 _ _ hn1 HB4
  refine wp_seq ?_
  refine rh0 HB4 [10, 11, 12, 6] [sv cvS1, sv [.n 6 x, .n 6 y, .b i], .int .i64 0, .int .i64 0] ?_ ?_
  · refine stpv (fun γ w h => ex_loads 0 11 (m := cvS1) flCv1 rfl rfl (A2.keep h.out) rfl rfl) ?_
    refine stpv (fun γ w h => ex_loads 0 3 (m := [.n 6 x, .n 6 y, .b i]) flG1 rfl rfl (A3.keep h.out) rfl rfl) ?_
    refine stpk Tryz.call77 (fun w h => hC _) ?_
    exact stpa .nil
  intro w5 hb5 HB8
  have A6 := A2.keep hb5.out
  have A7 := A3.keep hb5.out
  refine rh0 HB8 [13, 14] [.int .i64 0, .bool false] ?_ ?_
  · refine stpm ?_
    exact stpx (fun _ _ => ex_neqi rfl rfl _ rfl) .nil
  intro w9 hb9 HB12
  have A10 := A6.keep hb9.out
  have A11 := A7.keep hb9.out
  refine wp_cond_false rfl ?_
  refine wp_skip ?_
  refine th_r ?_
  refine rhc HB12 [(24, 8, 10, [.n 6 0], [.n 6 x]), (24, 9, 11, [.n 6 0], [.n 6 y])] [17, 18, 19, 20, 16, 21, 22, 23, 7, 8, 9] (fun γ => [pq (γ1 0) 8, .func (.func 76) #[] #[], sv [.n 6 x, .n 6 y, .b i], .tuple #[nv 6 [x], nv 6 [y], .bool i], .tuple #[nv 6 [x], nv 6 [y], .bool i], nv 6 [x], nv 6 [y], .bool i, pz (γ 0), pz (γ 1), .bool i]) ?_ ?_
  · refine stpx (fun _ _ => ex_field faCv1_8 rfl) ?_
    refine stpv (fun γ w h => ex_load1 8 (s := .v (.func (.func 76) #[] #[])) (v := .func (.func 76) #[] #[]) sgT10 rfl (A10.keep h.out) rfl rfl rfl) ?_
    refine stpv (fun γ w h => ex_loads 0 3 (m := [.n 6 x, .n 6 y, .b i]) flG1 rfl rfl (A11.keep h.out) rfl rfl) ?_
    refine stpk Tryz.call76 (fun w h => pt1parts_v x y i _) ?_
    refine stpm ?_
    refine stpx (fun _ _ => ex_extract rfl rfl) ?_
    refine stpx (fun _ _ => ex_extract rfl rfl) ?_
    refine stpx (fun _ _ => ex_extract rfl rfl) ?_
    refine stpn 0 (fun γ w => ex_allocsn (K := 6) (l := [0]) zFp) ?_
    refine stpn 1 (fun γ w => ex_allocsn (K := 6) (l := [0]) zFp) ?_
    refine stpo 0 0 1 flFp.2 (nv_cells 6 [x]) ?_
    refine stpo 1 0 1 flFp.2 (nv_cells 6 [y]) ?_
    exact stpa .nil
  intro γ13 w13 hb13 hB13 hn13 HB18
  have A14 := A10.keep hb13.out
  have A16 : SB 24 w13 (γ13 0) [.n 6 x] := (hB13 0 rfl).2
  have A17 : SB 24 w13 (γ13 1) [.n 6 y] := (hB13 1 rfl).2
  refine rh0 HB18 [24, 25, 26, 27, 28, 29, 30, 31, 32, 33, 34, 35, 4, 5] [pq (γ1 0) 1, .func (.func 70) #[] #[], nv 6 [x], str X, pq (γ1 0) 1, .func (.func 70) #[] #[], nv 6 [y], str Y, str ((X ++ Y)), .bool i, .int .u8 ((32 * fk false i false : Nat) : Int), str ((mark (fk false i false) (X ++ Y))), str ((mark (fk false i false) (X ++ Y))), .int .i64 0] ?_ ?_
  · refine stpx (fun _ _ => ex_field faCv1_1 rfl) ?_
    refine stpv (fun γ w h => ex_load1 1 (s := .v (.func (.func 70) #[] #[])) (v := .func (.func 70) #[] #[]) sgT3 rfl (A14.keep h.out) rfl rfl rfl) ?_
    refine stpl 0 1 flFp A16 ?_
    refine stpk Tryz.call70 (fun w h => hX _) ?_
    refine stpx (fun _ _ => ex_field faCv1_1 rfl) ?_
    refine stpv (fun γ w h => ex_load1 1 (s := .v (.func (.func 70) #[] #[])) (v := .func (.func 70) #[] #[]) sgT3 rfl (A14.keep h.out) rfl rfl rfl) ?_
    refine stpl 0 1 flFp A17 ?_
    refine stpk Tryz.call70 (fun w h => hY _) ?_
    refine stpx (fun _ _ => ex_catL (a := X) (b := Y) rfl rfl (by omega)) ?_
    refine stpm ?_
    refine stpk Tryz.call78 (fun w h => ptflag_64 i _) ?_
    refine stpc (str ((mark (fk false i false) (X ++ Y)))) (fun γ w => ex_call (vs := [str ((X ++ Y)), .int .u8 ((32 * fk false i false : Nat) : Int)]) rfl Tryz.call79 rfl) (fun w h => ptmarked_q _ (led_app hL) (by simp only [List.length_append]; omega) _ (fk_lt _ _ _) _) ?_
    refine stpa ?_
    exact stpa .nil
  intro w19 hb19 HB24
  exact wpr (ret2 Tryz.results30 (res_tmp rfl) (res_tmp rfl)) HB24
theorem pt1wide_l (x : Nat) (y : Nat) (i : Bool) (R : List UInt8) (hM : CI 30 #[sv cvS1, sv [.n 6 x, .n 6 y, .b i]] (.tuple #[str R, .int .i64 0])) : CI 7 #[sv [.n 6 x, .n 6 y, .b i]] (.tuple #[str R, .int .i64 0]) := fun w => by
  go_enter Tryz.func7, Tryz.ntmps7
  refine rh1 (brf w) 26 0 [.n 6 x, .n 6 y, .b i] [1, 2, 3] (fun γ => [pz (γ 0), str [], .int .i64 0]) ?_ ?_
  · refine stpb 0 (fun γ w h => ex_boxs (l := [.n 6 x, .n 6 y, .b i]) rfl) ?_
    refine stpa ?_
    exact stpa .nil
  intro γ1 w1 hb1 A2 _ HB3
  refine rh0 HB3 [4, 5, 6, 7, 8, 2, 3] [sv cvS1, sv [.n 6 x, .n 6 y, .b i], .tuple #[str R, .int .i64 0], str R, .int .i64 0, str R, .int .i64 0] ?_ ?_
  · refine stpk Tryz.call28 (fun w h => pt1first_v _) ?_
    refine stpv (fun γ w h => ex_loads 0 3 (m := [.n 6 x, .n 6 y, .b i]) flG1 rfl rfl (A2.keep h.out) rfl rfl) ?_
    refine stpk Tryz.call30 (fun w h => hM _) ?_
    refine stpx (fun _ _ => ex_extract rfl rfl) ?_
    refine stpx (fun _ _ => ex_extract rfl rfl) ?_
    refine stpa ?_
    exact stpa .nil
  intro w4 hb4 HB6
  exact wpr (ret2 Tryz.results7 (res_tmp rfl) (res_tmp rfl)) HB6
theorem pt1wide_in (P : E1) (hT : EP.times C1 rN P = EP.zero) (w : World) : Calls Tryz.prog 7 #[sv [.n 6 (ax P.pt), .n 6 (ay P.pt), .b (ai P.pt)]] w (Is (.tuple #[str ((mark (fk false (ai P.pt) false) ((be 48 (ax P.pt)) ++ (be 48 (ay P.pt))))), .int .i64 0]) w) :=
  pt1wide_l (ax P.pt) (ay P.pt) (ai P.pt) _ (fun w => pt1wide_in_m (ax P.pt) (ay P.pt) (ai P.pt) (fun _ => pt1check_in P hT _) _ (fun _ => fpPut_l (ax P.pt) (ax_P _) _) (led_be (ax_P _)) (by simp only [length_be]; decide) _ (fun _ => fpPut_l (ay P.pt) (ay_P _) _) (by simp only [length_be]; decide) w) w
end Go.Proofs.YtkkmekdhejhapaaGreat

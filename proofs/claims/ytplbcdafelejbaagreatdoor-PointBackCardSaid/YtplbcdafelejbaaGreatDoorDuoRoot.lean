/- What is proved here: what duo.High and duo.Root answer, by numbers; squares of numbers A + B u. -/
import Derived.Test.YtplbcdafelejbaaGreatDoorComp0
import Derived.Test.YtplbcdafelejbaaGreatDoorFpRoot
namespace Go.Proofs.YtplbcdafelejbaaGreatDoor
open Go.RowKit
set_option maxRecDepth 20000
set_option maxHeartbeats 4000000
def dHigh (a b : Nat) : Bool := if pCl b = 0 then pHigh a else pHigh b
theorem duoHigh_z (a b : Nat) (w : World) (ha : a < fpB) (hb : b < fpB) (hz : pCl b = 0) (r : Bool) (hr : r = dHigh a b) :
    Calls Tryz.prog 58 #[nv 6 [a, b]] w (Is (.bool r) w) := by
  go_enter Tryz.func58, Tryz.ntmps58
  refine seq_lit ?_
  refine sn1 (xs := rows 6 [a, b]) (ex_boxn (K := 6) (l := [a, b]) rfl) ?_
  intro w1 N1 hb1
  have HB2 := below_then (brf w) hb1
  refine sv1 (.bool false) (ex_assign _) ?_
  refine seq_nil ?_
  refine seq_lit ?_
  refine sv1 (nv 6 [a, b]) (ex_loadn (K := 6) (k := 0) (j := 2) (l := [a, b]) flFp2 rfl N1 rfl _ rfl) ?_
  refine sck HB2 Tryz.call55 (duoClean_v a b _ ha hb) ?_
  intro w3 hb3 HB5
  have A4 := N1.keep hb3
  refine st1 (t := 43) (xs := rows 6 [a, b]) (ys := rows 6 [(pCl a), (pCl b)]) A4 (len_rows rfl) (ex_storen (K := 6) (l := [a, b]) (m := [(pCl a), (pCl b)]) flFp2 rfl rfl A4 rfl) ?_
  intro w6 N6 hst6 hoth6
  have HB7 := hst6 _ _ HB5 (Nat.le_refl _)
  refine seq_nil ?_
  refine wp_seq ?_
  refine seq_lit ?_
  refine sv1 (pq w.heap.size 6) (ex_field faFp2_1 rfl) ?_
  refine sv1 (nv 6 [(pCl b)]) (ex_loadn (K := 6) (k := 1) (j := 1) (l := [(pCl a), (pCl b)]) flFp rfl N6 rfl _ rfl) ?_
  refine sv1 (nv 6 [0]) (ex_zero) ?_
  refine sv1 (.bool true) (ex_eqn (K := 6) (l := [(pCl b)]) (m := [0]) eqFp rfl rfl rfl rfl rfl (fpB_all1 (pCl_B _)) (fpB_all1 zero_B) rfl true (by rw [hz]; rfl)) ?_
  refine seq_nil ?_
  refine wp_cond_true rfl ?_
  refine seq_lit ?_
  refine sv1 (pt w.heap.size) (ex_field faFp2_0 rfl) ?_
  refine sv1 (nv 6 [(pCl a)]) (ex_loadn (K := 6) (k := 0) (j := 1) (l := [(pCl a), (pCl b)]) flFp rfl N6 rfl _ rfl) ?_
  refine sch HB7 (.bool r) (ex_call (vs := [nv 6 [(pCl a)]]) rfl Tryz.call44 rfl) (fpHigh_v (pCl a) _ (pCl_B _) r (by rw [hr]; unfold dHigh; rw [if_pos hz, high_cl])) ?_
  intro w8 hb8 HB10
  refine sv1 (.bool r) (ex_assign _) ?_
  refine seq_nil ?_
  exact wp_ret (bodyPost_ret (ret_tmp Tryz.results58 rfl) rfl ⟨rfl, HB10⟩)
theorem duoHigh_n (a b : Nat) (w : World) (ha : a < fpB) (hb : b < fpB) (hz : pCl b ≠ 0) (r : Bool) (hr : r = dHigh a b) :
    Calls Tryz.prog 58 #[nv 6 [a, b]] w (Is (.bool r) w) := by
  go_enter Tryz.func58, Tryz.ntmps58
  refine seq_lit ?_
  refine sn1 (xs := rows 6 [a, b]) (ex_boxn (K := 6) (l := [a, b]) rfl) ?_
  intro w1 N1 hb1
  have HB2 := below_then (brf w) hb1
  refine sv1 (.bool false) (ex_assign _) ?_
  refine seq_nil ?_
  refine seq_lit ?_
  refine sv1 (nv 6 [a, b]) (ex_loadn (K := 6) (k := 0) (j := 2) (l := [a, b]) flFp2 rfl N1 rfl _ rfl) ?_
  refine sck HB2 Tryz.call55 (duoClean_v a b _ ha hb) ?_
  intro w3 hb3 HB5
  have A4 := N1.keep hb3
  refine st1 (t := 43) (xs := rows 6 [a, b]) (ys := rows 6 [(pCl a), (pCl b)]) A4 (len_rows rfl) (ex_storen (K := 6) (l := [a, b]) (m := [(pCl a), (pCl b)]) flFp2 rfl rfl A4 rfl) ?_
  intro w6 N6 hst6 hoth6
  have HB7 := hst6 _ _ HB5 (Nat.le_refl _)
  refine seq_nil ?_
  refine wp_seq ?_
  refine seq_lit ?_
  refine sv1 (pq w.heap.size 6) (ex_field faFp2_1 rfl) ?_
  refine sv1 (nv 6 [(pCl b)]) (ex_loadn (K := 6) (k := 1) (j := 1) (l := [(pCl a), (pCl b)]) flFp rfl N6 rfl _ rfl) ?_
  refine sv1 (nv 6 [0]) (ex_zero) ?_
  refine sv1 (.bool false) (ex_eqn (K := 6) (l := [(pCl b)]) (m := [0]) eqFp rfl rfl rfl rfl rfl (fpB_all1 (pCl_B _)) (fpB_all1 zero_B) rfl false (decide_eq_false (fun hq => hz (by injection hq))).symm) ?_
  refine seq_nil ?_
  refine wp_cond_false rfl ?_
  refine wp_skip (then_n ?_)
  refine seq_lit ?_
  refine sv1 (pq w.heap.size 6) (ex_field faFp2_1 rfl) ?_
  refine sv1 (nv 6 [(pCl b)]) (ex_loadn (K := 6) (k := 1) (j := 1) (l := [(pCl a), (pCl b)]) flFp rfl N6 rfl _ rfl) ?_
  refine sch HB7 (.bool r) (ex_call (vs := [nv 6 [(pCl b)]]) rfl Tryz.call44 rfl) (fpHigh_v (pCl b) _ (pCl_B _) r (by rw [hr]; unfold dHigh; rw [if_neg hz, high_cl])) ?_
  intro w8 hb8 HB10
  refine sv1 (.bool r) (ex_assign _) ?_
  refine seq_nil ?_
  exact wp_ret (bodyPost_ret (ret_tmp Tryz.results58 rfl) rfl ⟨rfl, HB10⟩)
theorem duoHigh_v (a b : Nat) (w : World) (ha : a < fpB) (hb : b < fpB) (r : Bool) (hr : r = dHigh a b) :
    Calls Tryz.prog 58 #[nv 6 [a, b]] w (Is (.bool r) w) := by
  by_cases hz : pCl b = 0
  · exact duoHigh_z a b w ha hb hz r hr
  · exact duoHigh_n a b w ha hb hz r hr
theorem plain_ok (a : Nat) (w : World) (ha : a < fpB) (v : Nat) (hv : v = pRootV a) (he : 0 = pRootE a) :
    Calls Tryz.prog 56 #[nv 6 [a]] w (Is (nv 6 [v, 0]) w) := by
  go_enter Tryz.func56, Tryz.ntmps56
  refine seq_lit ?_
  refine sn1 (xs := rows 6 [a]) (ex_boxn (K := 6) (l := [a]) rfl) ?_
  intro w1 N1 hb1
  have HB2 := below_then (brf w) hb1
  refine sn1 (xs := rows 6 [0, 0]) (ex_alloc zFp2) ?_
  intro w3 N3 hb3
  have A4 := N1.keep hb3
  have HB5 := below_then HB2 hb3
  refine seq_nil ?_
  refine wp_seq ?_
  refine seq_lit ?_
  refine sv1 (nv 6 [a]) (ex_loadn (K := 6) (k := 0) (j := 1) (l := [a]) flFp rfl A4 rfl _ rfl) ?_
  refine sck HB5 Tryz.call12 (fpRoot_v a _ ha v hv 0 he) ?_
  intro w7 hb7 HB10
  have A9 := N3.keep hb7
  refine sv1 (.tuple #[nv 6 [v], .int .i64 0]) (ex_move _) ?_
  refine sv1 (nv 6 [v]) (ex_extract rfl rfl) ?_
  refine sv1 (.int .i64 0) (ex_extract rfl rfl) ?_
  refine sn1 (xs := rows 6 [0]) (ex_alloc zFp) ?_
  intro w11 N11 hb11
  have A13 := A9.keep hb11
  have HB14 := below_then HB10 hb11
  refine st1 (t := 24) (xs := rows 6 [0]) (ys := rows 6 [v]) N11 (len_rows rfl) (ex_storen (K := 6) (l := [0]) (m := [v]) flFp rfl rfl N11 rfl) ?_
  intro w17 N17 hst17 hoth17
  have A19 := hoth17 _ _ _ (Nat.ne_of_lt A9.lt) A13
  have HB20 := hst17 _ _ HB14 HB10.size
  refine sv1 (.int .i64 0) (ex_assign _) ?_
  refine seq_nil ?_
  refine seq_lit ?_
  refine sv1 (.int .i64 0) (ex_move _) ?_
  refine sv1 (.bool true) (ex_eqi rfl rfl _ rfl) ?_
  refine seq_nil ?_
  refine wp_cond_true rfl ?_
  refine seq_lit ?_
  refine sv1 (nv 6 [v]) (ex_loadn (K := 6) (k := 0) (j := 1) (l := [v]) flFp rfl N17 rfl _ rfl) ?_
  refine sv1 (nv 6 [v, 0]) (ex_build stFp2 (vs := [(0, nv 6 [v])]) rfl (bdA v)) ?_
  refine st1 (t := 43) (xs := rows 6 [0, 0]) (ys := rows 6 [v, 0]) A19 (len_rows rfl) (ex_storen (K := 6) (l := [0, 0]) (m := [v, 0]) flFp2 rfl rfl A19 rfl) ?_
  intro w21 N21 hst21 hoth21
  have HB24 := hst21 _ _ HB20 HB2.size
  refine seq_nil ?_
  exact wp_ret (bodyPost_ret (ret_celln (K := 6) Tryz.results56 rfl N21 flFp2) rfl ⟨rfl, HB24⟩)
theorem plain_no (a : Nat) (w : World) (ha : a < fpB) (v : Nat) (hv : v = pRootV a) (he : 21 = pRootE a) (u : Nat) (hu : u = pRootV (pNeg a)) (k : Int) (hk : k = pRootE (pNeg a)) :
    Calls Tryz.prog 56 #[nv 6 [a]] w (Is (nv 6 [0, u]) w) := by
  go_enter Tryz.func56, Tryz.ntmps56
  refine seq_lit ?_
  refine sn1 (xs := rows 6 [a]) (ex_boxn (K := 6) (l := [a]) rfl) ?_
  intro w1 N1 hb1
  have HB2 := below_then (brf w) hb1
  refine sn1 (xs := rows 6 [0, 0]) (ex_alloc zFp2) ?_
  intro w3 N3 hb3
  have A4 := N1.keep hb3
  have HB5 := below_then HB2 hb3
  refine seq_nil ?_
  refine wp_seq ?_
  refine seq_lit ?_
  refine sv1 (nv 6 [a]) (ex_loadn (K := 6) (k := 0) (j := 1) (l := [a]) flFp rfl A4 rfl _ rfl) ?_
  refine sck HB5 Tryz.call12 (fpRoot_v a _ ha v hv 21 he) ?_
  intro w7 hb7 HB10
  have A8 := A4.keep hb7
  have A9 := N3.keep hb7
  refine sv1 (.tuple #[nv 6 [v], .int .i64 21]) (ex_move _) ?_
  refine sv1 (nv 6 [v]) (ex_extract rfl rfl) ?_
  refine sv1 (.int .i64 21) (ex_extract rfl rfl) ?_
  refine sn1 (xs := rows 6 [0]) (ex_alloc zFp) ?_
  intro w11 N11 hb11
  have A12 := A8.keep hb11
  have A13 := A9.keep hb11
  have HB14 := below_then HB10 hb11
  refine st1 (t := 24) (xs := rows 6 [0]) (ys := rows 6 [v]) N11 (len_rows rfl) (ex_storen (K := 6) (l := [0]) (m := [v]) flFp rfl rfl N11 rfl) ?_
  intro w17 N17 hst17 hoth17
  have A18 := hoth17 _ _ _ (Nat.ne_of_lt A8.lt) A12
  have A19 := hoth17 _ _ _ (Nat.ne_of_lt A9.lt) A13
  have HB20 := hst17 _ _ HB14 HB10.size
  refine sv1 (.int .i64 21) (ex_assign _) ?_
  refine seq_nil ?_
  refine seq_lit ?_
  refine sv1 (.int .i64 21) (ex_move _) ?_
  refine sv1 (.bool false) (ex_eqi rfl rfl _ rfl) ?_
  refine seq_nil ?_
  refine wp_cond_false rfl ?_
  refine wp_skip (then_n ?_)
  refine seq_lit ?_
  refine sv1 (nv 6 [a]) (ex_loadn (K := 6) (k := 0) (j := 1) (l := [a]) flFp rfl A18 rfl _ rfl) ?_
  refine sck HB20 Tryz.call45 (fpNeg_p a _ ha) ?_
  intro w21 hb21 HB25
  have A23 := A19.keep hb21
  refine sck HB25 Tryz.call12 (fpRoot_v (pNeg a) _ (pNeg_B _) u hu k hk) ?_
  intro w26 hb26 HB30
  have A28 := A23.keep hb26
  refine sv1 (.tuple #[nv 6 [u], .int .i64 k]) (ex_move _) ?_
  refine sv1 (nv 6 [u]) (ex_extract rfl rfl) ?_
  refine sv1 (.int .i64 k) (ex_extract rfl rfl) ?_
  refine sn1 (xs := rows 6 [0]) (ex_alloc zFp) ?_
  intro w31 N31 hb31
  have A33 := A28.keep hb31
  have HB35 := below_then HB30 hb31
  refine st1 (t := 24) (xs := rows 6 [0]) (ys := rows 6 [u]) N31 (len_rows rfl) (ex_storen (K := 6) (l := [0]) (m := [u]) flFp rfl rfl N31 rfl) ?_
  intro w39 N39 hst39 hoth39
  have A41 := hoth39 _ _ _ (Nat.ne_of_lt A28.lt) A33
  have HB43 := hst39 _ _ HB35 HB30.size
  refine sv1 (.int .i64 k) (ex_assign _) ?_
  refine seq_nil ?_
  refine seq_lit ?_
  refine sv1 (nv 6 [u]) (ex_loadn (K := 6) (k := 0) (j := 1) (l := [u]) flFp rfl N39 rfl _ rfl) ?_
  refine sv1 (nv 6 [0, u]) (ex_build stFp2 (vs := [(1, nv 6 [u])]) rfl (bdB u)) ?_
  refine st1 (t := 43) (xs := rows 6 [0, 0]) (ys := rows 6 [0, u]) A41 (len_rows rfl) (ex_storen (K := 6) (l := [0, 0]) (m := [0, u]) flFp2 rfl rfl A41 rfl) ?_
  intro w44 N44 hst44 hoth44
  have HB48 := hst44 _ _ HB43 HB2.size
  refine seq_nil ?_
  exact wp_ret (bodyPost_ret (ret_celln (K := 6) Tryz.results56 rfl N44 flFp2) rfl ⟨rfl, HB48⟩)
theorem mixed_none (a b : Nat) (w : World) (ha : a < fpB) (hb : b < fpB) (s : Nat) (hs : s = pRootV (pAdd (pMul a a) (pMul b b))) (h0 : 21 = pRootE (pAdd (pMul a a) (pMul b b))) :
    Calls Tryz.prog 57 #[nv 6 [a, b]] w (Is (.tuple #[nv 6 [0, 0], .int .i64 21]) w) := by
  go_enter Tryz.func57, Tryz.ntmps57
  refine seq_lit ?_
  refine sn1 (xs := rows 6 [a, b]) (ex_boxn (K := 6) (l := [a, b]) rfl) ?_
  intro w1 N1 hb1
  have HB2 := below_then (brf w) hb1
  refine sn1 (xs := rows 6 [0, 0]) (ex_alloc zFp2) ?_
  intro w3 N3 hb3
  have A4 := N1.keep hb3
  have HB5 := below_then HB2 hb3
  refine sv1 (.int .i64 0) (ex_assign _) ?_
  refine seq_nil ?_
  refine seq_lit ?_
  refine sv1 (nv 6 [a, b]) (ex_loadn (K := 6) (k := 0) (j := 2) (l := [a, b]) flFp2 rfl A4 rfl _ rfl) ?_
  refine sck HB5 Tryz.call113 (duonorm_v a b _ ha hb) ?_
  intro w7 hb7 HB10
  have A9 := N3.keep hb7
  refine sck HB10 Tryz.call12 (fpRoot_v (pAdd (pMul a a) (pMul b b)) _ (pAdd_B _ _) s hs 21 h0) ?_
  intro w11 hb11 HB14
  have A13 := A9.keep hb11
  refine sv1 (.tuple #[nv 6 [s], .int .i64 21]) (ex_move _) ?_
  refine sv1 (nv 6 [s]) (ex_extract rfl rfl) ?_
  refine sv1 (.int .i64 21) (ex_extract rfl rfl) ?_
  refine sn1 (xs := rows 6 [0]) (ex_alloc zFp) ?_
  intro w15 N15 hb15
  have A17 := A13.keep hb15
  have HB18 := below_then HB14 hb15
  refine st1 (t := 24) (xs := rows 6 [0]) (ys := rows 6 [s]) N15 (len_rows rfl) (ex_storen (K := 6) (l := [0]) (m := [s]) flFp rfl rfl N15 rfl) ?_
  intro w21 N21 hst21 hoth21
  have A23 := hoth21 _ _ _ (Nat.ne_of_lt A13.lt) A17
  have HB24 := hst21 _ _ HB18 HB14.size
  refine sv1 (.int .i64 21) (ex_assign _) ?_
  refine seq_nil ?_
  refine wp_seq ?_
  refine seq_lit ?_
  refine sv1 (.int .i64 21) (ex_move _) ?_
  refine sv1 (.bool true) (ex_neqi rfl rfl _ rfl) ?_
  refine seq_nil ?_
  refine wp_cond_true rfl ?_
  refine seq_lit ?_
  refine sv1 (nv 6 [0, 0]) (ex_build stFp2 (vs := []) rfl (bd0)) ?_
  refine sv1 (.int .i64 21) (ex_move _) ?_
  refine st1 (t := 43) (xs := rows 6 [0, 0]) (ys := rows 6 [0, 0]) A23 (len_rows rfl) (ex_storen (K := 6) (l := [0, 0]) (m := [0, 0]) flFp2 rfl rfl A23 rfl) ?_
  intro w25 N25 hst25 hoth25
  have HB28 := hst25 _ _ HB24 HB2.size
  refine sv1 (.int .i64 21) (ex_assign _) ?_
  refine seq_nil ?_
  exact wp_ret (bodyPost_ret (ret_bothn (K := 6) Tryz.results57 rfl rfl N25 flFp2) rfl ⟨rfl, HB28⟩)
theorem mixed_one (a b : Nat) (w : World) (ha : a < fpB) (hb : b < fpB) (s : Nat) (hs : s = pRootV (pAdd (pMul a a) (pMul b b))) (h0 : 0 = pRootE (pAdd (pMul a a) (pMul b b))) (l : Nat) (hl : l = pAdd a s) (u : Nat) (hu : u = pRootV (pAdd l l)) (h1 : 0 = pRootE (pAdd l l)) (i : Nat) (hi : i = pInv u) :
    Calls Tryz.prog 57 #[nv 6 [a, b]] w (Is (.tuple #[nv 6 [(pMul l i), (pMul b i)], .int .i64 0]) w) := by
  have bs : s < fpB := by rw [hs]; exact Nat.lt_trans (rootV_P _) fpM_lt
  have bl : l < fpB := by rw [hl]; exact pAdd_B _ _
  have bu : u < fpB := by rw [hu]; exact Nat.lt_trans (rootV_P _) fpM_lt
  have bi : i < fpB := by rw [hi]; exact pInv_B _
  go_enter Tryz.func57, Tryz.ntmps57
  refine seq_lit ?_
  refine sn1 (xs := rows 6 [a, b]) (ex_boxn (K := 6) (l := [a, b]) rfl) ?_
  intro w1 N1 hb1
  have HB2 := below_then (brf w) hb1
  refine sn1 (xs := rows 6 [0, 0]) (ex_alloc zFp2) ?_
  intro w3 N3 hb3
  have A4 := N1.keep hb3
  have HB5 := below_then HB2 hb3
  refine sv1 (.int .i64 0) (ex_assign _) ?_
  refine seq_nil ?_
  refine seq_lit ?_
  refine sv1 (nv 6 [a, b]) (ex_loadn (K := 6) (k := 0) (j := 2) (l := [a, b]) flFp2 rfl A4 rfl _ rfl) ?_
  refine sck HB5 Tryz.call113 (duonorm_v a b _ ha hb) ?_
  intro w7 hb7 HB10
  have A8 := A4.keep hb7
  have A9 := N3.keep hb7
  refine sck HB10 Tryz.call12 (fpRoot_v (pAdd (pMul a a) (pMul b b)) _ (pAdd_B _ _) s hs 0 h0) ?_
  intro w11 hb11 HB14
  have A12 := A8.keep hb11
  have A13 := A9.keep hb11
  refine sv1 (.tuple #[nv 6 [s], .int .i64 0]) (ex_move _) ?_
  refine sv1 (nv 6 [s]) (ex_extract rfl rfl) ?_
  refine sv1 (.int .i64 0) (ex_extract rfl rfl) ?_
  refine sn1 (xs := rows 6 [0]) (ex_alloc zFp) ?_
  intro w15 N15 hb15
  have A16 := A12.keep hb15
  have A17 := A13.keep hb15
  have HB18 := below_then HB14 hb15
  refine st1 (t := 24) (xs := rows 6 [0]) (ys := rows 6 [s]) N15 (len_rows rfl) (ex_storen (K := 6) (l := [0]) (m := [s]) flFp rfl rfl N15 rfl) ?_
  intro w21 N21 hst21 hoth21
  have A22 := hoth21 _ _ _ (Nat.ne_of_lt A12.lt) A16
  have A23 := hoth21 _ _ _ (Nat.ne_of_lt A13.lt) A17
  have HB24 := hst21 _ _ HB18 HB14.size
  refine sv1 (.int .i64 0) (ex_assign _) ?_
  refine seq_nil ?_
  refine wp_seq ?_
  refine seq_lit ?_
  refine sv1 (.int .i64 0) (ex_move _) ?_
  refine sv1 (.bool false) (ex_neqi rfl rfl _ rfl) ?_
  refine seq_nil ?_
  refine wp_cond_false rfl ?_
  refine wp_skip (then_n ?_)
  refine seq_lit ?_
  refine sv1 (pt w.heap.size) (ex_field faFp2_0 rfl) ?_
  refine sv1 (nv 6 [a]) (ex_loadn (K := 6) (k := 0) (j := 1) (l := [a, b]) flFp rfl A22 rfl _ rfl) ?_
  refine sv1 (nv 6 [s]) (ex_loadn (K := 6) (k := 0) (j := 1) (l := [s]) flFp rfl N21 rfl _ rfl) ?_
  refine sch HB24 (nv 6 [l]) (ex_call (vs := [nv 6 [a], nv 6 [s]]) rfl Tryz.call114 rfl) ((by rw [hl]; exact fpAdd_p a s _ ha bs)) ?_
  intro w25 hb25 HB29
  have A26 := A22.keep hb25
  have A27 := A23.keep hb25
  refine sn1 (xs := rows 6 [0]) (ex_alloc zFp) ?_
  intro w30 N30 hb30
  have A31 := A26.keep hb30
  have A32 := A27.keep hb30
  have HB34 := below_then HB29 hb30
  refine st1 (t := 24) (xs := rows 6 [0]) (ys := rows 6 [l]) N30 (len_rows rfl) (ex_storen (K := 6) (l := [0]) (m := [l]) flFp rfl rfl N30 rfl) ?_
  intro w38 N38 hst38 hoth38
  have A39 := hoth38 _ _ _ (Nat.ne_of_lt A26.lt) A31
  have A40 := hoth38 _ _ _ (Nat.ne_of_lt A27.lt) A32
  have HB42 := hst38 _ _ HB34 HB29.size
  refine seq_nil ?_
  refine seq_lit ?_
  refine sv1 (nv 6 [l]) (ex_loadn (K := 6) (k := 0) (j := 1) (l := [l]) flFp rfl N38 rfl _ rfl) ?_
  refine sv1 (nv 6 [l]) (ex_loadn (K := 6) (k := 0) (j := 1) (l := [l]) flFp rfl N38 rfl _ rfl) ?_
  refine sck HB42 Tryz.call114 (fpAdd_p l l _ bl bl) ?_
  intro w43 hb43 HB48
  have A44 := A39.keep hb43
  have A45 := A40.keep hb43
  have A47 := N38.keep hb43
  refine sck HB48 Tryz.call12 (fpRoot_v (pAdd l l) _ (pAdd_B _ _) u hu 0 h1) ?_
  intro w49 hb49 HB54
  have A50 := A44.keep hb49
  have A51 := A45.keep hb49
  have A53 := A47.keep hb49
  refine sv1 (.tuple #[nv 6 [u], .int .i64 0]) (ex_move _) ?_
  refine sv1 (nv 6 [u]) (ex_extract rfl rfl) ?_
  refine sv1 (.int .i64 0) (ex_extract rfl rfl) ?_
  refine sn1 (xs := rows 6 [0]) (ex_alloc zFp) ?_
  intro w55 N55 hb55
  have A56 := A50.keep hb55
  have A57 := A51.keep hb55
  have A59 := A53.keep hb55
  have HB60 := below_then HB54 hb55
  refine st1 (t := 24) (xs := rows 6 [0]) (ys := rows 6 [u]) N55 (len_rows rfl) (ex_storen (K := 6) (l := [0]) (m := [u]) flFp rfl rfl N55 rfl) ?_
  intro w65 N65 hst65 hoth65
  have A66 := hoth65 _ _ _ (Nat.ne_of_lt A50.lt) A56
  have A67 := hoth65 _ _ _ (Nat.ne_of_lt A51.lt) A57
  have A69 := hoth65 _ _ _ (Nat.ne_of_lt A53.lt) A59
  have HB70 := hst65 _ _ HB60 HB54.size
  refine sv1 (.int .i64 0) (ex_assign _) ?_
  refine seq_nil ?_
  refine wp_seq ?_
  refine seq_lit ?_
  refine sv1 (.int .i64 0) (ex_move _) ?_
  refine sv1 (.bool false) (ex_neqi rfl rfl _ rfl) ?_
  refine seq_nil ?_
  refine wp_cond_false rfl ?_
  refine wp_skip (then_n ?_)
  refine wp_seq (wp_region_sto (F := ⟨#[nv 6 [a, b], pt w.heap.size, pt w1.heap.size, .int .i64 0, pt w11.heap.size, .int .i64 0, pt w25.heap.size, pt w49.heap.size, .tuple #[nv 6 [s], .int .i64 0], nv 6 [a, b], nv 6 [(pAdd (pMul a a) (pMul b b))], .tuple #[nv 6 [s], .int .i64 0], nv 6 [s], .int .i64 0, .int .i64 0, .bool false, ud, ud, pt w.heap.size, nv 6 [a], nv 6 [s], nv 6 [l], .tuple #[nv 6 [u], .int .i64 0], nv 6 [l], nv 6 [l], nv 6 [(pAdd l l)], .tuple #[nv 6 [u], .int .i64 0], nv 6 [u], .int .i64 0, .int .i64 0, .bool false, ud, ud, ud, ud, ud, ud, ud, ud, ud, ud, ud, nv 6 [l], pq w.heap.size 6, nv 6 [b], nv 6 [l, b], nv 6 [u], nv 6 [i], nv 6 [(pMul l i), (pMul b i)]], []⟩) 43 6 7 (w1.heap.size) [0, 0] [(pMul l i), (pMul b i)] [(42, nv 6 [l]), (43, pq w.heap.size 6), (44, nv 6 [b]), (45, nv 6 [l, b]), (46, nv 6 [u]), (47, nv 6 [i]), (48, nv 6 [(pMul l i), (pMul b i)]), (3, .int .i64 0)] (by kernel_rfl) (by kernel_rfl) (by kernel_rfl) (by kernel_rfl) rfl (by simp only [putAll, List.setIfInBounds_toArray, List.set_cons_zero, List.set_cons_succ]) rfl A67 rfl ?_ ?_)
  · refine GSteps.cons (sj_val (v := nv 6 [l]) rfl rfl rfl (fun W' h => ex_loadn (K := 6) (k := 0) (j := 1) (l := [l]) flFp rfl (A69.keep h.out) rfl _ rfl) (by kernel_rfl) rfl) ?_
    refine GSteps.cons (sj_val (v := pq w.heap.size 6) rfl rfl rfl (fun W' h => ex_field faFp2_1 rfl) (by kernel_rfl) rfl) ?_
    refine GSteps.cons (sj_val (v := nv 6 [b]) rfl rfl rfl (fun W' h => ex_loadn (K := 6) (k := 1) (j := 1) (l := [a, b]) flFp rfl (A66.keep h.out) rfl _ rfl) (by kernel_rfl) rfl) ?_
    refine GSteps.cons (sj_val (v := nv 6 [l, b]) rfl rfl rfl (fun W' h => ex_build stFp2 (vs := [(0, nv 6 [l]), (1, nv 6 [b])]) rfl (bdAB l b)) (by kernel_rfl) rfl) ?_
    refine GSteps.cons (sj_val (v := nv 6 [u]) rfl rfl rfl (fun W' h => ex_loadn (K := 6) (k := 0) (j := 1) (l := [u]) flFp rfl (N65.keep h.out) rfl _ rfl) (by kernel_rfl) rfl) ?_
    refine GSteps.cons (sj_call (v := nv 6 [i]) rfl rfl rfl (fun W' => ex_call (vs := [nv 6 [u]]) rfl Tryz.call116 rfl) (fun W' h => fpInv_p u _ bu i hi) (by kernel_rfl) rfl) ?_
    refine GSteps.cons (sj_call (v := nv 6 [(pMul l i), (pMul b i)]) rfl rfl rfl (fun W' => ex_call (vs := [nv 6 [l, b], nv 6 [i]]) rfl Tryz.call115 rfl) (fun W' h => duoscale_v l b i _ bl hb bi) (by kernel_rfl) rfl) ?_
    refine GSteps.cons (sj_store rfl rfl (fun W' h => ex_storen (K := 6) (l := [0, 0]) (m := [(pMul l i), (pMul b i)]) flFp2 rfl rfl (A67.keep h.out) rfl) rfl) ?_
    refine GSteps.cons (sj_post (v := .int .i64 0) rfl rfl rfl (fun W' => ex_assign _) rfl) ?_
    exact GSteps.nil
  intro w71 w72 hb71 N72 hst72 hoth72
  refine then_n ?_
  have HB78 := below_then HB70 hb71.out
  have HB83 := hst72 _ _ HB78 HB2.size
  exact wp_ret (bodyPost_ret (ret_bothn (K := 6) Tryz.results57 rfl rfl N72 flFp2) rfl ⟨rfl, HB83⟩)
theorem mixed_two (a b : Nat) (w : World) (ha : a < fpB) (hb : b < fpB) (s : Nat) (hs : s = pRootV (pAdd (pMul a a) (pMul b b))) (h0 : 0 = pRootE (pAdd (pMul a a) (pMul b b))) (l1 : Nat) (hl1 : l1 = pAdd a s) (u1 : Nat) (hu1 : u1 = pRootV (pAdd l1 l1)) (h1 : 21 = pRootE (pAdd l1 l1)) (l : Nat) (hl : l = pSub a s) (u : Nat) (hu : u = pRootV (pAdd l l)) (k : Int) (hk : k = pRootE (pAdd l l)) (i : Nat) (hi : i = pInv u) :
    Calls Tryz.prog 57 #[nv 6 [a, b]] w (Is (.tuple #[nv 6 [(pMul l i), (pMul b i)], .int .i64 0]) w) := by
  have bs : s < fpB := by rw [hs]; exact Nat.lt_trans (rootV_P _) fpM_lt
  have bl1 : l1 < fpB := by rw [hl1]; exact pAdd_B _ _
  have bl : l < fpB := by rw [hl]; exact pSub_B _ _
  have bu : u < fpB := by rw [hu]; exact Nat.lt_trans (rootV_P _) fpM_lt
  have bi : i < fpB := by rw [hi]; exact pInv_B _
  go_enter Tryz.func57, Tryz.ntmps57
  refine seq_lit ?_
  refine sn1 (xs := rows 6 [a, b]) (ex_boxn (K := 6) (l := [a, b]) rfl) ?_
  intro w1 N1 hb1
  have HB2 := below_then (brf w) hb1
  refine sn1 (xs := rows 6 [0, 0]) (ex_alloc zFp2) ?_
  intro w3 N3 hb3
  have A4 := N1.keep hb3
  have HB5 := below_then HB2 hb3
  refine sv1 (.int .i64 0) (ex_assign _) ?_
  refine seq_nil ?_
  refine seq_lit ?_
  refine sv1 (nv 6 [a, b]) (ex_loadn (K := 6) (k := 0) (j := 2) (l := [a, b]) flFp2 rfl A4 rfl _ rfl) ?_
  refine sck HB5 Tryz.call113 (duonorm_v a b _ ha hb) ?_
  intro w7 hb7 HB10
  have A8 := A4.keep hb7
  have A9 := N3.keep hb7
  refine sck HB10 Tryz.call12 (fpRoot_v (pAdd (pMul a a) (pMul b b)) _ (pAdd_B _ _) s hs 0 h0) ?_
  intro w11 hb11 HB14
  have A12 := A8.keep hb11
  have A13 := A9.keep hb11
  refine sv1 (.tuple #[nv 6 [s], .int .i64 0]) (ex_move _) ?_
  refine sv1 (nv 6 [s]) (ex_extract rfl rfl) ?_
  refine sv1 (.int .i64 0) (ex_extract rfl rfl) ?_
  refine sn1 (xs := rows 6 [0]) (ex_alloc zFp) ?_
  intro w15 N15 hb15
  have A16 := A12.keep hb15
  have A17 := A13.keep hb15
  have HB18 := below_then HB14 hb15
  refine st1 (t := 24) (xs := rows 6 [0]) (ys := rows 6 [s]) N15 (len_rows rfl) (ex_storen (K := 6) (l := [0]) (m := [s]) flFp rfl rfl N15 rfl) ?_
  intro w21 N21 hst21 hoth21
  have A22 := hoth21 _ _ _ (Nat.ne_of_lt A12.lt) A16
  have A23 := hoth21 _ _ _ (Nat.ne_of_lt A13.lt) A17
  have HB24 := hst21 _ _ HB18 HB14.size
  refine sv1 (.int .i64 0) (ex_assign _) ?_
  refine seq_nil ?_
  refine wp_seq ?_
  refine seq_lit ?_
  refine sv1 (.int .i64 0) (ex_move _) ?_
  refine sv1 (.bool false) (ex_neqi rfl rfl _ rfl) ?_
  refine seq_nil ?_
  refine wp_cond_false rfl ?_
  refine wp_skip (then_n ?_)
  refine seq_lit ?_
  refine sv1 (pt w.heap.size) (ex_field faFp2_0 rfl) ?_
  refine sv1 (nv 6 [a]) (ex_loadn (K := 6) (k := 0) (j := 1) (l := [a, b]) flFp rfl A22 rfl _ rfl) ?_
  refine sv1 (nv 6 [s]) (ex_loadn (K := 6) (k := 0) (j := 1) (l := [s]) flFp rfl N21 rfl _ rfl) ?_
  refine sch HB24 (nv 6 [l1]) (ex_call (vs := [nv 6 [a], nv 6 [s]]) rfl Tryz.call114 rfl) ((by rw [hl1]; exact fpAdd_p a s _ ha bs)) ?_
  intro w25 hb25 HB29
  have A26 := A22.keep hb25
  have A27 := A23.keep hb25
  have A28 := N21.keep hb25
  refine sn1 (xs := rows 6 [0]) (ex_alloc zFp) ?_
  intro w30 N30 hb30
  have A31 := A26.keep hb30
  have A32 := A27.keep hb30
  have A33 := A28.keep hb30
  have HB34 := below_then HB29 hb30
  refine st1 (t := 24) (xs := rows 6 [0]) (ys := rows 6 [l1]) N30 (len_rows rfl) (ex_storen (K := 6) (l := [0]) (m := [l1]) flFp rfl rfl N30 rfl) ?_
  intro w38 N38 hst38 hoth38
  have A39 := hoth38 _ _ _ (Nat.ne_of_lt A26.lt) A31
  have A40 := hoth38 _ _ _ (Nat.ne_of_lt A27.lt) A32
  have A41 := hoth38 _ _ _ (Nat.ne_of_lt A28.lt) A33
  have HB42 := hst38 _ _ HB34 HB29.size
  refine seq_nil ?_
  refine seq_lit ?_
  refine sv1 (nv 6 [l1]) (ex_loadn (K := 6) (k := 0) (j := 1) (l := [l1]) flFp rfl N38 rfl _ rfl) ?_
  refine sv1 (nv 6 [l1]) (ex_loadn (K := 6) (k := 0) (j := 1) (l := [l1]) flFp rfl N38 rfl _ rfl) ?_
  refine sck HB42 Tryz.call114 (fpAdd_p l1 l1 _ bl1 bl1) ?_
  intro w43 hb43 HB48
  have A44 := A39.keep hb43
  have A45 := A40.keep hb43
  have A46 := A41.keep hb43
  have A47 := N38.keep hb43
  refine sck HB48 Tryz.call12 (fpRoot_v (pAdd l1 l1) _ (pAdd_B _ _) u1 hu1 21 h1) ?_
  intro w49 hb49 HB54
  have A50 := A44.keep hb49
  have A51 := A45.keep hb49
  have A52 := A46.keep hb49
  have A53 := A47.keep hb49
  refine sv1 (.tuple #[nv 6 [u1], .int .i64 21]) (ex_move _) ?_
  refine sv1 (nv 6 [u1]) (ex_extract rfl rfl) ?_
  refine sv1 (.int .i64 21) (ex_extract rfl rfl) ?_
  refine sn1 (xs := rows 6 [0]) (ex_alloc zFp) ?_
  intro w55 N55 hb55
  have A56 := A50.keep hb55
  have A57 := A51.keep hb55
  have A58 := A52.keep hb55
  have A59 := A53.keep hb55
  have HB60 := below_then HB54 hb55
  refine st1 (t := 24) (xs := rows 6 [0]) (ys := rows 6 [u1]) N55 (len_rows rfl) (ex_storen (K := 6) (l := [0]) (m := [u1]) flFp rfl rfl N55 rfl) ?_
  intro w65 N65 hst65 hoth65
  have A66 := hoth65 _ _ _ (Nat.ne_of_lt A50.lt) A56
  have A67 := hoth65 _ _ _ (Nat.ne_of_lt A51.lt) A57
  have A68 := hoth65 _ _ _ (Nat.ne_of_lt A52.lt) A58
  have A69 := hoth65 _ _ _ (Nat.ne_of_lt A53.lt) A59
  have HB70 := hst65 _ _ HB60 HB54.size
  refine sv1 (.int .i64 21) (ex_assign _) ?_
  refine seq_nil ?_
  refine wp_seq ?_
  refine seq_lit ?_
  refine sv1 (.int .i64 21) (ex_move _) ?_
  refine sv1 (.bool true) (ex_neqi rfl rfl _ rfl) ?_
  refine seq_nil ?_
  refine wp_cond_true rfl ?_
  refine seq_lit ?_
  refine sv1 (pt w.heap.size) (ex_field faFp2_0 rfl) ?_
  refine sv1 (nv 6 [a]) (ex_loadn (K := 6) (k := 0) (j := 1) (l := [a, b]) flFp rfl A66 rfl _ rfl) ?_
  refine sv1 (nv 6 [s]) (ex_loadn (K := 6) (k := 0) (j := 1) (l := [s]) flFp rfl A68 rfl _ rfl) ?_
  refine sch HB70 (nv 6 [l]) (ex_call (vs := [nv 6 [a], nv 6 [s]]) rfl Tryz.call92 rfl) ((by rw [hl]; exact fpSub_p a s _ ha bs)) ?_
  intro w71 hb71 HB77
  have A72 := A66.keep hb71
  have A73 := A67.keep hb71
  have A75 := A69.keep hb71
  have A76 := N65.keep hb71
  refine st1 (t := 24) (xs := rows 6 [l1]) (ys := rows 6 [l]) A75 (len_rows rfl) (ex_storen (K := 6) (l := [l1]) (m := [l]) flFp rfl rfl A75 rfl) ?_
  intro w78 N78 hst78 hoth78
  have A79 := hoth78 _ _ _ (Nat.ne_of_lt A26.lt) A72
  have A80 := hoth78 _ _ _ (Nat.ne_of_lt A27.lt) A73
  have A82 := hoth78 _ _ _ (Ne.symm (Nat.ne_of_lt A53.lt)) A76
  have HB83 := hst78 _ _ HB77 HB29.size
  refine seq_nil ?_
  refine wp_region_lit ?_
  refine sv1 (nv 6 [l]) (ex_loadn (K := 6) (k := 0) (j := 1) (l := [l]) flFp rfl N78 rfl _ rfl) ?_
  refine sv1 (nv 6 [l]) (ex_loadn (K := 6) (k := 0) (j := 1) (l := [l]) flFp rfl N78 rfl _ rfl) ?_
  refine sck HB83 Tryz.call114 (fpAdd_p l l _ bl bl) ?_
  intro w84 hb84 HB90
  have A85 := A79.keep hb84
  have A86 := A80.keep hb84
  have A88 := N78.keep hb84
  have A89 := A82.keep hb84
  refine sck HB90 Tryz.call12 (fpRoot_v (pAdd l l) _ (pAdd_B _ _) u hu k hk) ?_
  intro w91 hb91 HB97
  have A92 := A85.keep hb91
  have A93 := A86.keep hb91
  have A95 := A88.keep hb91
  have A96 := A89.keep hb91
  refine sv1 (.tuple #[nv 6 [u], .int .i64 k]) (ex_move _) ?_
  refine sv1 (nv 6 [u]) (ex_extract rfl rfl) ?_
  refine sv1 (.int .i64 k) (ex_extract rfl rfl) ?_
  refine st1 (t := 24) (xs := rows 6 [u1]) (ys := rows 6 [u]) A96 (len_rows rfl) (ex_storen (K := 6) (l := [u1]) (m := [u]) flFp rfl rfl A96 rfl) ?_
  intro w98 N98 hst98 hoth98
  have A99 := hoth98 _ _ _ (Nat.ne_of_lt A50.lt) A92
  have A100 := hoth98 _ _ _ (Nat.ne_of_lt A51.lt) A93
  have A102 := hoth98 _ _ _ (Nat.ne_of_lt A53.lt) A95
  have HB103 := hst98 _ _ HB97 HB54.size
  refine wpList_nil (then_n ?_)
  refine wp_seq (wp_region_sto (F := ⟨#[nv 6 [a, b], pt w.heap.size, pt w1.heap.size, .int .i64 0, pt w11.heap.size, .int .i64 21, pt w25.heap.size, pt w49.heap.size, .tuple #[nv 6 [s], .int .i64 0], nv 6 [a, b], nv 6 [(pAdd (pMul a a) (pMul b b))], .tuple #[nv 6 [s], .int .i64 0], nv 6 [s], .int .i64 0, .int .i64 0, .bool false, ud, ud, pt w.heap.size, nv 6 [a], nv 6 [s], nv 6 [l1], .tuple #[nv 6 [u1], .int .i64 21], nv 6 [l1], nv 6 [l1], nv 6 [(pAdd l1 l1)], .tuple #[nv 6 [u1], .int .i64 21], nv 6 [u1], .int .i64 21, .int .i64 21, .bool true, pt w.heap.size, nv 6 [a], nv 6 [s], nv 6 [l], .tuple #[nv 6 [u], .int .i64 k], nv 6 [l], nv 6 [l], nv 6 [(pAdd l l)], .tuple #[nv 6 [u], .int .i64 k], nv 6 [u], .int .i64 k, nv 6 [l], pq w.heap.size 6, nv 6 [b], nv 6 [l, b], nv 6 [u], nv 6 [i], nv 6 [(pMul l i), (pMul b i)]], []⟩) 43 6 7 (w1.heap.size) [0, 0] [(pMul l i), (pMul b i)] [(42, nv 6 [l]), (43, pq w.heap.size 6), (44, nv 6 [b]), (45, nv 6 [l, b]), (46, nv 6 [u]), (47, nv 6 [i]), (48, nv 6 [(pMul l i), (pMul b i)]), (3, .int .i64 0)] (by kernel_rfl) (by kernel_rfl) (by kernel_rfl) (by kernel_rfl) rfl (by simp only [putAll, List.setIfInBounds_toArray, List.set_cons_zero, List.set_cons_succ]) rfl A100 rfl ?_ ?_)
  · refine GSteps.cons (sj_val (v := nv 6 [l]) rfl rfl rfl (fun W' h => ex_loadn (K := 6) (k := 0) (j := 1) (l := [l]) flFp rfl (A102.keep h.out) rfl _ rfl) (by kernel_rfl) rfl) ?_
    refine GSteps.cons (sj_val (v := pq w.heap.size 6) rfl rfl rfl (fun W' h => ex_field faFp2_1 rfl) (by kernel_rfl) rfl) ?_
    refine GSteps.cons (sj_val (v := nv 6 [b]) rfl rfl rfl (fun W' h => ex_loadn (K := 6) (k := 1) (j := 1) (l := [a, b]) flFp rfl (A99.keep h.out) rfl _ rfl) (by kernel_rfl) rfl) ?_
    refine GSteps.cons (sj_val (v := nv 6 [l, b]) rfl rfl rfl (fun W' h => ex_build stFp2 (vs := [(0, nv 6 [l]), (1, nv 6 [b])]) rfl (bdAB l b)) (by kernel_rfl) rfl) ?_
    refine GSteps.cons (sj_val (v := nv 6 [u]) rfl rfl rfl (fun W' h => ex_loadn (K := 6) (k := 0) (j := 1) (l := [u]) flFp rfl (N98.keep h.out) rfl _ rfl) (by kernel_rfl) rfl) ?_
    refine GSteps.cons (sj_call (v := nv 6 [i]) rfl rfl rfl (fun W' => ex_call (vs := [nv 6 [u]]) rfl Tryz.call116 rfl) (fun W' h => fpInv_p u _ bu i hi) (by kernel_rfl) rfl) ?_
    refine GSteps.cons (sj_call (v := nv 6 [(pMul l i), (pMul b i)]) rfl rfl rfl (fun W' => ex_call (vs := [nv 6 [l, b], nv 6 [i]]) rfl Tryz.call115 rfl) (fun W' h => duoscale_v l b i _ bl hb bi) (by kernel_rfl) rfl) ?_
    refine GSteps.cons (sj_store rfl rfl (fun W' h => ex_storen (K := 6) (l := [0, 0]) (m := [(pMul l i), (pMul b i)]) flFp2 rfl rfl (A100.keep h.out) rfl) rfl) ?_
    refine GSteps.cons (sj_post (v := .int .i64 0) rfl rfl rfl (fun W' => ex_assign _) rfl) ?_
    exact GSteps.nil
  intro w104 w105 hb104 N105 hst105 hoth105
  refine then_n ?_
  have HB111 := below_then HB103 hb104.out
  have HB116 := hst105 _ _ HB111 HB2.size
  exact wp_ret (bodyPost_ret (ret_bothn (K := 6) Tryz.results57 rfl rfl N105 flFp2) rfl ⟨rfl, HB116⟩)
theorem duoRoot_plain (a b : Nat) (w : World) (ha : a < fpB) (hb : b < fpB) (m0 m1 : Nat) (hz : pCl b = 0) (HP : ∀ W, Calls Tryz.prog 56 #[nv 6 [pCl a]] W (Is (nv 6 [m0, m1]) W)) :
    Calls Tryz.prog 20 #[nv 6 [a, b]] w (Is (.tuple #[nv 6 [m0, m1], .int .i64 0]) w) := by
  go_enter Tryz.func20, Tryz.ntmps20
  refine seq_lit ?_
  refine sn1 (xs := rows 6 [a, b]) (ex_boxn (K := 6) (l := [a, b]) rfl) ?_
  intro w1 N1 hb1
  have HB2 := below_then (brf w) hb1
  refine sn1 (xs := rows 6 [0, 0]) (ex_alloc zFp2) ?_
  intro w3 N3 hb3
  have A4 := N1.keep hb3
  have HB5 := below_then HB2 hb3
  refine sv1 (.int .i64 0) (ex_assign _) ?_
  refine seq_nil ?_
  refine seq_lit ?_
  refine sv1 (nv 6 [a, b]) (ex_loadn (K := 6) (k := 0) (j := 2) (l := [a, b]) flFp2 rfl A4 rfl _ rfl) ?_
  refine sck HB5 Tryz.call55 (duoClean_v a b _ ha hb) ?_
  intro w7 hb7 HB10
  have A8 := A4.keep hb7
  have A9 := N3.keep hb7
  refine st1 (t := 43) (xs := rows 6 [a, b]) (ys := rows 6 [(pCl a), (pCl b)]) A8 (len_rows rfl) (ex_storen (K := 6) (l := [a, b]) (m := [(pCl a), (pCl b)]) flFp2 rfl rfl A8 rfl) ?_
  intro w11 N11 hst11 hoth11
  have A12 := hoth11 _ _ _ (Ne.symm (Nat.ne_of_lt N1.lt)) A9
  have HB13 := hst11 _ _ HB10 (Nat.le_refl _)
  refine seq_nil ?_
  refine wp_seq ?_
  refine seq_lit ?_
  refine sv1 (pq w.heap.size 6) (ex_field faFp2_1 rfl) ?_
  refine sv1 (nv 6 [(pCl b)]) (ex_loadn (K := 6) (k := 1) (j := 1) (l := [(pCl a), (pCl b)]) flFp rfl N11 rfl _ rfl) ?_
  refine sv1 (nv 6 [0]) (ex_zero) ?_
  refine sv1 (.bool true) (ex_eqn (K := 6) (l := [(pCl b)]) (m := [0]) eqFp rfl rfl rfl rfl rfl (fpB_all1 (pCl_B _)) (fpB_all1 zero_B) rfl true (by rw [hz]; rfl)) ?_
  refine seq_nil ?_
  refine wp_cond_true rfl ?_
  refine seq_lit ?_
  refine sv1 (pt w.heap.size) (ex_field faFp2_0 rfl) ?_
  refine sv1 (nv 6 [(pCl a)]) (ex_loadn (K := 6) (k := 0) (j := 1) (l := [(pCl a), (pCl b)]) flFp rfl N11 rfl _ rfl) ?_
  refine sck HB13 Tryz.call56 (HP _) ?_
  intro w14 hb14 HB17
  have A16 := A12.keep hb14
  refine st1 (t := 43) (xs := rows 6 [0, 0]) (ys := rows 6 [m0, m1]) A16 (len_rows rfl) (ex_storen (K := 6) (l := [0, 0]) (m := [m0, m1]) flFp2 rfl rfl A16 rfl) ?_
  intro w18 N18 hst18 hoth18
  have HB20 := hst18 _ _ HB17 HB2.size
  refine sv1 (.int .i64 0) (ex_assign _) ?_
  refine seq_nil ?_
  exact wp_ret (bodyPost_ret (ret_bothn (K := 6) Tryz.results20 rfl rfl N18 flFp2) rfl ⟨rfl, HB20⟩)
theorem duoRoot_none (a b : Nat) (w : World) (ha : a < fpB) (hb : b < fpB) (m0 m1 : Nat) (hz : pCl b ≠ 0) (HM : ∀ W, Calls Tryz.prog 57 #[nv 6 [pCl a, pCl b]] W (Is (.tuple #[nv 6 [m0, m1], .int .i64 21]) W)) :
    Calls Tryz.prog 20 #[nv 6 [a, b]] w (Is (.tuple #[nv 6 [0, 0], .int .i64 21]) w) := by
  go_enter Tryz.func20, Tryz.ntmps20
  refine seq_lit ?_
  refine sn1 (xs := rows 6 [a, b]) (ex_boxn (K := 6) (l := [a, b]) rfl) ?_
  intro w1 N1 hb1
  have HB2 := below_then (brf w) hb1
  refine sn1 (xs := rows 6 [0, 0]) (ex_alloc zFp2) ?_
  intro w3 N3 hb3
  have A4 := N1.keep hb3
  have HB5 := below_then HB2 hb3
  refine sv1 (.int .i64 0) (ex_assign _) ?_
  refine seq_nil ?_
  refine seq_lit ?_
  refine sv1 (nv 6 [a, b]) (ex_loadn (K := 6) (k := 0) (j := 2) (l := [a, b]) flFp2 rfl A4 rfl _ rfl) ?_
  refine sck HB5 Tryz.call55 (duoClean_v a b _ ha hb) ?_
  intro w7 hb7 HB10
  have A8 := A4.keep hb7
  have A9 := N3.keep hb7
  refine st1 (t := 43) (xs := rows 6 [a, b]) (ys := rows 6 [(pCl a), (pCl b)]) A8 (len_rows rfl) (ex_storen (K := 6) (l := [a, b]) (m := [(pCl a), (pCl b)]) flFp2 rfl rfl A8 rfl) ?_
  intro w11 N11 hst11 hoth11
  have A12 := hoth11 _ _ _ (Ne.symm (Nat.ne_of_lt N1.lt)) A9
  have HB13 := hst11 _ _ HB10 (Nat.le_refl _)
  refine seq_nil ?_
  refine wp_seq ?_
  refine seq_lit ?_
  refine sv1 (pq w.heap.size 6) (ex_field faFp2_1 rfl) ?_
  refine sv1 (nv 6 [(pCl b)]) (ex_loadn (K := 6) (k := 1) (j := 1) (l := [(pCl a), (pCl b)]) flFp rfl N11 rfl _ rfl) ?_
  refine sv1 (nv 6 [0]) (ex_zero) ?_
  refine sv1 (.bool false) (ex_eqn (K := 6) (l := [(pCl b)]) (m := [0]) eqFp rfl rfl rfl rfl rfl (fpB_all1 (pCl_B _)) (fpB_all1 zero_B) rfl false (decide_eq_false (fun hq => hz (by injection hq))).symm) ?_
  refine seq_nil ?_
  refine wp_cond_false rfl ?_
  refine wp_skip (then_n ?_)
  refine seq_lit ?_
  refine sv1 (nv 6 [(pCl a), (pCl b)]) (ex_loadn (K := 6) (k := 0) (j := 2) (l := [(pCl a), (pCl b)]) flFp2 rfl N11 rfl _ rfl) ?_
  refine sck HB13 Tryz.call57 (HM _) ?_
  intro w14 hb14 HB17
  have A16 := A12.keep hb14
  refine sv1 (.tuple #[nv 6 [m0, m1], .int .i64 21]) (ex_move _) ?_
  refine sv1 (nv 6 [m0, m1]) (ex_extract rfl rfl) ?_
  refine sv1 (.int .i64 21) (ex_extract rfl rfl) ?_
  refine sn1 (xs := rows 6 [0, 0]) (ex_alloc zFp2) ?_
  intro w18 N18 hb18
  have A20 := A16.keep hb18
  have HB21 := below_then HB17 hb18
  refine st1 (t := 43) (xs := rows 6 [0, 0]) (ys := rows 6 [m0, m1]) N18 (len_rows rfl) (ex_storen (K := 6) (l := [0, 0]) (m := [m0, m1]) flFp2 rfl rfl N18 rfl) ?_
  intro w24 N24 hst24 hoth24
  have A26 := hoth24 _ _ _ (Nat.ne_of_lt A16.lt) A20
  have HB27 := hst24 _ _ HB21 HB17.size
  refine sv1 (.int .i64 21) (ex_assign _) ?_
  refine seq_nil ?_
  refine wp_seq ?_
  refine seq_lit ?_
  refine sv1 (.int .i64 21) (ex_move _) ?_
  refine sv1 (.bool true) (ex_neqi rfl rfl _ rfl) ?_
  refine seq_nil ?_
  refine wp_cond_true rfl ?_
  refine seq_lit ?_
  refine sv1 (nv 6 [0, 0]) (ex_build stFp2 (vs := []) rfl (bd0)) ?_
  refine sv1 (.int .i64 21) (ex_move _) ?_
  refine st1 (t := 43) (xs := rows 6 [0, 0]) (ys := rows 6 [0, 0]) A26 (len_rows rfl) (ex_storen (K := 6) (l := [0, 0]) (m := [0, 0]) flFp2 rfl rfl A26 rfl) ?_
  intro w28 N28 hst28 hoth28
  have HB31 := hst28 _ _ HB27 HB2.size
  refine sv1 (.int .i64 21) (ex_assign _) ?_
  refine seq_nil ?_
  exact wp_ret (bodyPost_ret (ret_bothn (K := 6) Tryz.results20 rfl rfl N28 flFp2) rfl ⟨rfl, HB31⟩)
theorem duoRoot_hi (a b : Nat) (w : World) (ha : a < fpB) (hb : b < fpB) (m0 m1 : Nat) (hz : pCl b ≠ 0) (HM : ∀ W, Calls Tryz.prog 57 #[nv 6 [pCl a, pCl b]] W (Is (.tuple #[nv 6 [m0, m1], .int .i64 0]) W)) (hm0 : m0 < fpB) (hm1 : m1 < fpB) (hr : true = dHigh m0 m1) :
    Calls Tryz.prog 20 #[nv 6 [a, b]] w (Is (.tuple #[nv 6 [(pNeg m0), (pNeg m1)], .int .i64 0]) w) := by
  go_enter Tryz.func20, Tryz.ntmps20
  refine seq_lit ?_
  refine sn1 (xs := rows 6 [a, b]) (ex_boxn (K := 6) (l := [a, b]) rfl) ?_
  intro w1 N1 hb1
  have HB2 := below_then (brf w) hb1
  refine sn1 (xs := rows 6 [0, 0]) (ex_alloc zFp2) ?_
  intro w3 N3 hb3
  have A4 := N1.keep hb3
  have HB5 := below_then HB2 hb3
  refine sv1 (.int .i64 0) (ex_assign _) ?_
  refine seq_nil ?_
  refine seq_lit ?_
  refine sv1 (nv 6 [a, b]) (ex_loadn (K := 6) (k := 0) (j := 2) (l := [a, b]) flFp2 rfl A4 rfl _ rfl) ?_
  refine sck HB5 Tryz.call55 (duoClean_v a b _ ha hb) ?_
  intro w7 hb7 HB10
  have A8 := A4.keep hb7
  have A9 := N3.keep hb7
  refine st1 (t := 43) (xs := rows 6 [a, b]) (ys := rows 6 [(pCl a), (pCl b)]) A8 (len_rows rfl) (ex_storen (K := 6) (l := [a, b]) (m := [(pCl a), (pCl b)]) flFp2 rfl rfl A8 rfl) ?_
  intro w11 N11 hst11 hoth11
  have A12 := hoth11 _ _ _ (Ne.symm (Nat.ne_of_lt N1.lt)) A9
  have HB13 := hst11 _ _ HB10 (Nat.le_refl _)
  refine seq_nil ?_
  refine wp_seq ?_
  refine seq_lit ?_
  refine sv1 (pq w.heap.size 6) (ex_field faFp2_1 rfl) ?_
  refine sv1 (nv 6 [(pCl b)]) (ex_loadn (K := 6) (k := 1) (j := 1) (l := [(pCl a), (pCl b)]) flFp rfl N11 rfl _ rfl) ?_
  refine sv1 (nv 6 [0]) (ex_zero) ?_
  refine sv1 (.bool false) (ex_eqn (K := 6) (l := [(pCl b)]) (m := [0]) eqFp rfl rfl rfl rfl rfl (fpB_all1 (pCl_B _)) (fpB_all1 zero_B) rfl false (decide_eq_false (fun hq => hz (by injection hq))).symm) ?_
  refine seq_nil ?_
  refine wp_cond_false rfl ?_
  refine wp_skip (then_n ?_)
  refine seq_lit ?_
  refine sv1 (nv 6 [(pCl a), (pCl b)]) (ex_loadn (K := 6) (k := 0) (j := 2) (l := [(pCl a), (pCl b)]) flFp2 rfl N11 rfl _ rfl) ?_
  refine sck HB13 Tryz.call57 (HM _) ?_
  intro w14 hb14 HB17
  have A16 := A12.keep hb14
  refine sv1 (.tuple #[nv 6 [m0, m1], .int .i64 0]) (ex_move _) ?_
  refine sv1 (nv 6 [m0, m1]) (ex_extract rfl rfl) ?_
  refine sv1 (.int .i64 0) (ex_extract rfl rfl) ?_
  refine sn1 (xs := rows 6 [0, 0]) (ex_alloc zFp2) ?_
  intro w18 N18 hb18
  have A20 := A16.keep hb18
  have HB21 := below_then HB17 hb18
  refine st1 (t := 43) (xs := rows 6 [0, 0]) (ys := rows 6 [m0, m1]) N18 (len_rows rfl) (ex_storen (K := 6) (l := [0, 0]) (m := [m0, m1]) flFp2 rfl rfl N18 rfl) ?_
  intro w24 N24 hst24 hoth24
  have A26 := hoth24 _ _ _ (Nat.ne_of_lt A16.lt) A20
  have HB27 := hst24 _ _ HB21 HB17.size
  refine sv1 (.int .i64 0) (ex_assign _) ?_
  refine seq_nil ?_
  refine wp_seq ?_
  refine seq_lit ?_
  refine sv1 (.int .i64 0) (ex_move _) ?_
  refine sv1 (.bool false) (ex_neqi rfl rfl _ rfl) ?_
  refine seq_nil ?_
  refine wp_cond_false rfl ?_
  refine wp_skip (then_n ?_)
  refine wp_seq ?_
  refine seq_lit ?_
  refine sv1 (nv 6 [m0, m1]) (ex_loadn (K := 6) (k := 0) (j := 2) (l := [m0, m1]) flFp2 rfl N24 rfl _ rfl) ?_
  refine sck HB27 Tryz.call58 (duoHigh_v m0 m1 _ hm0 hm1 true hr) ?_
  intro w28 hb28 HB32
  have A30 := A26.keep hb28
  have A31 := N24.keep hb28
  refine seq_nil ?_
  refine wp_cond_true rfl ?_
  refine wp_region_lit ?_
  refine sv1 (nv 6 [m0, m1]) (ex_loadn (K := 6) (k := 0) (j := 2) (l := [m0, m1]) flFp2 rfl A31 rfl _ rfl) ?_
  refine sck HB32 Tryz.call59 (duoNeg_v m0 m1 _ hm0 hm1) ?_
  intro w33 hb33 HB37
  have A35 := A30.keep hb33
  have A36 := A31.keep hb33
  refine st1 (t := 43) (xs := rows 6 [m0, m1]) (ys := rows 6 [(pNeg m0), (pNeg m1)]) A36 (len_rows rfl) (ex_storen (K := 6) (l := [m0, m1]) (m := [(pNeg m0), (pNeg m1)]) flFp2 rfl rfl A36 rfl) ?_
  intro w38 N38 hst38 hoth38
  have A40 := hoth38 _ _ _ (Nat.ne_of_lt A16.lt) A35
  have HB41 := hst38 _ _ HB37 HB17.size
  refine wpList_nil (then_n ?_)
  refine seq_lit ?_
  refine sv1 (nv 6 [(pNeg m0), (pNeg m1)]) (ex_loadn (K := 6) (k := 0) (j := 2) (l := [(pNeg m0), (pNeg m1)]) flFp2 rfl N38 rfl _ rfl) ?_
  refine st1 (t := 43) (xs := rows 6 [0, 0]) (ys := rows 6 [(pNeg m0), (pNeg m1)]) A40 (len_rows rfl) (ex_storen (K := 6) (l := [0, 0]) (m := [(pNeg m0), (pNeg m1)]) flFp2 rfl rfl A40 rfl) ?_
  intro w42 N42 hst42 hoth42
  have HB45 := hst42 _ _ HB41 HB2.size
  refine sv1 (.int .i64 0) (ex_assign _) ?_
  refine seq_nil ?_
  exact wp_ret (bodyPost_ret (ret_bothn (K := 6) Tryz.results20 rfl rfl N42 flFp2) rfl ⟨rfl, HB45⟩)
theorem duoRoot_lo (a b : Nat) (w : World) (ha : a < fpB) (hb : b < fpB) (m0 m1 : Nat) (hz : pCl b ≠ 0) (HM : ∀ W, Calls Tryz.prog 57 #[nv 6 [pCl a, pCl b]] W (Is (.tuple #[nv 6 [m0, m1], .int .i64 0]) W)) (hm0 : m0 < fpB) (hm1 : m1 < fpB) (hr : false = dHigh m0 m1) :
    Calls Tryz.prog 20 #[nv 6 [a, b]] w (Is (.tuple #[nv 6 [m0, m1], .int .i64 0]) w) := by
  go_enter Tryz.func20, Tryz.ntmps20
  refine seq_lit ?_
  refine sn1 (xs := rows 6 [a, b]) (ex_boxn (K := 6) (l := [a, b]) rfl) ?_
  intro w1 N1 hb1
  have HB2 := below_then (brf w) hb1
  refine sn1 (xs := rows 6 [0, 0]) (ex_alloc zFp2) ?_
  intro w3 N3 hb3
  have A4 := N1.keep hb3
  have HB5 := below_then HB2 hb3
  refine sv1 (.int .i64 0) (ex_assign _) ?_
  refine seq_nil ?_
  refine seq_lit ?_
  refine sv1 (nv 6 [a, b]) (ex_loadn (K := 6) (k := 0) (j := 2) (l := [a, b]) flFp2 rfl A4 rfl _ rfl) ?_
  refine sck HB5 Tryz.call55 (duoClean_v a b _ ha hb) ?_
  intro w7 hb7 HB10
  have A8 := A4.keep hb7
  have A9 := N3.keep hb7
  refine st1 (t := 43) (xs := rows 6 [a, b]) (ys := rows 6 [(pCl a), (pCl b)]) A8 (len_rows rfl) (ex_storen (K := 6) (l := [a, b]) (m := [(pCl a), (pCl b)]) flFp2 rfl rfl A8 rfl) ?_
  intro w11 N11 hst11 hoth11
  have A12 := hoth11 _ _ _ (Ne.symm (Nat.ne_of_lt N1.lt)) A9
  have HB13 := hst11 _ _ HB10 (Nat.le_refl _)
  refine seq_nil ?_
  refine wp_seq ?_
  refine seq_lit ?_
  refine sv1 (pq w.heap.size 6) (ex_field faFp2_1 rfl) ?_
  refine sv1 (nv 6 [(pCl b)]) (ex_loadn (K := 6) (k := 1) (j := 1) (l := [(pCl a), (pCl b)]) flFp rfl N11 rfl _ rfl) ?_
  refine sv1 (nv 6 [0]) (ex_zero) ?_
  refine sv1 (.bool false) (ex_eqn (K := 6) (l := [(pCl b)]) (m := [0]) eqFp rfl rfl rfl rfl rfl (fpB_all1 (pCl_B _)) (fpB_all1 zero_B) rfl false (decide_eq_false (fun hq => hz (by injection hq))).symm) ?_
  refine seq_nil ?_
  refine wp_cond_false rfl ?_
  refine wp_skip (then_n ?_)
  refine seq_lit ?_
  refine sv1 (nv 6 [(pCl a), (pCl b)]) (ex_loadn (K := 6) (k := 0) (j := 2) (l := [(pCl a), (pCl b)]) flFp2 rfl N11 rfl _ rfl) ?_
  refine sck HB13 Tryz.call57 (HM _) ?_
  intro w14 hb14 HB17
  have A16 := A12.keep hb14
  refine sv1 (.tuple #[nv 6 [m0, m1], .int .i64 0]) (ex_move _) ?_
  refine sv1 (nv 6 [m0, m1]) (ex_extract rfl rfl) ?_
  refine sv1 (.int .i64 0) (ex_extract rfl rfl) ?_
  refine sn1 (xs := rows 6 [0, 0]) (ex_alloc zFp2) ?_
  intro w18 N18 hb18
  have A20 := A16.keep hb18
  have HB21 := below_then HB17 hb18
  refine st1 (t := 43) (xs := rows 6 [0, 0]) (ys := rows 6 [m0, m1]) N18 (len_rows rfl) (ex_storen (K := 6) (l := [0, 0]) (m := [m0, m1]) flFp2 rfl rfl N18 rfl) ?_
  intro w24 N24 hst24 hoth24
  have A26 := hoth24 _ _ _ (Nat.ne_of_lt A16.lt) A20
  have HB27 := hst24 _ _ HB21 HB17.size
  refine sv1 (.int .i64 0) (ex_assign _) ?_
  refine seq_nil ?_
  refine wp_seq ?_
  refine seq_lit ?_
  refine sv1 (.int .i64 0) (ex_move _) ?_
  refine sv1 (.bool false) (ex_neqi rfl rfl _ rfl) ?_
  refine seq_nil ?_
  refine wp_cond_false rfl ?_
  refine wp_skip (then_n ?_)
  refine wp_seq ?_
  refine seq_lit ?_
  refine sv1 (nv 6 [m0, m1]) (ex_loadn (K := 6) (k := 0) (j := 2) (l := [m0, m1]) flFp2 rfl N24 rfl _ rfl) ?_
  refine sck HB27 Tryz.call58 (duoHigh_v m0 m1 _ hm0 hm1 false hr) ?_
  intro w28 hb28 HB32
  have A30 := A26.keep hb28
  have A31 := N24.keep hb28
  refine seq_nil ?_
  refine wp_cond_false rfl ?_
  refine wp_skip (then_n ?_)
  refine seq_lit ?_
  refine sv1 (nv 6 [m0, m1]) (ex_loadn (K := 6) (k := 0) (j := 2) (l := [m0, m1]) flFp2 rfl A31 rfl _ rfl) ?_
  refine st1 (t := 43) (xs := rows 6 [0, 0]) (ys := rows 6 [m0, m1]) A30 (len_rows rfl) (ex_storen (K := 6) (l := [0, 0]) (m := [m0, m1]) flFp2 rfl rfl A30 rfl) ?_
  intro w33 N33 hst33 hoth33
  have HB36 := hst33 _ _ HB32 HB2.size
  refine sv1 (.int .i64 0) (ex_assign _) ?_
  refine seq_nil ?_
  exact wp_ret (bodyPost_ret (ret_bothn (K := 6) Tryz.results20 rfl rfl N33 flFp2) rfl ⟨rfl, HB36⟩)
theorem chi_m {m : Nat} (hm : m = pNeg 1) : pChi m = m := by
  obtain ⟨k, hk⟩ : ∃ k, (pN - 1) / 2 = 2 * k + 1 := ⟨(pN - 3) / 4, by decide +kernel⟩
  have e1 : m = pN - 1 := by rw [hm]; decide +kernel
  have e2 : pCl m = pN - 1 := by rw [hm, pCl_of (pNeg_P 1)]; decide +kernel
  unfold pChi
  rw [hk, e2, neg_pow, e1]
theorem chi_neg {a : Nat} : pChi (pNeg a) = pMul (pNeg 1) (pChi a) := by
  obtain ⟨m, hm⟩ : ∃ m, m = pNeg 1 := ⟨_, rfl⟩
  have e : pNeg a = pMul m a := rep_uniq (pNeg_P _) (pMul_P _ _) (rep_neg (rep_self a)) (rep_mul (rep_eq hm (rep_neg rep_1)) (rep_self a)) (by grind)
  rw [e, chi_mul, chi_m hm, hm]
theorem rootE_21 {a : Nat} (h : pRootE a = 21) : pCl a ≠ 0 ∧ pChi a = pNeg 1 := by
  have hn : ¬ (pCl a = 0 ∨ pChi a = 1) := fun hq => by rw [(rootE_iff a).2 hq] at h; cases h
  have h0 : pCl a ≠ 0 := fun h0 => hn (.inl h0)
  exact ⟨h0, (chi_cases h0).resolve_left (fun h1 => hn (.inr h1))⟩
theorem root_neg {a : Nat} (h : pRootE a = 21) : pRootE (pNeg a) = 0 := by
  obtain ⟨_, h1⟩ := rootE_21 h
  rw [rootE_iff, chi_neg, h1]
  exact .inr (by decide +kernel)
def IsSq (v0 v1 a b : Nat) : Prop := pSub (pMul v0 v0) (pMul v1 v1) = pCl a ∧ pAdd (pMul v0 v1) (pMul v1 v0) = pCl b
theorem plain_sq {a v : Nat} (hv : v = pRootV a) (h : pRootE a = 0) : IsSq v 0 a 0 ∧ dHigh v 0 = false := by
  obtain ⟨h1, h2⟩ := rootV_square h
  rw [← hv] at h1 h2
  refine ⟨⟨?_, ?_⟩, ?_⟩
  · rw [h1]
    exact rep_uniq (pSub_P _ _) (pCl_P _) (rep_sub (rep_cl (rep_self a)) (rep_mul rep_0 rep_0)) (rep_cl (rep_self a)) (by grind)
  · exact rep_uniq (pAdd_P _ _) (pCl_P _) (rep_add (rep_mul (rep_self v) rep_0) (rep_mul rep_0 (rep_self v))) (rep_cl rep_0) (by grind)
  · unfold dHigh
    rw [if_pos (by decide +kernel), h2]
theorem plain_sq' {a u : Nat} (h0 : pRootE a = 21) (hu : u = pRootV (pNeg a)) : IsSq 0 u a 0 ∧ dHigh 0 u = false := by
  obtain ⟨h1, h2⟩ := rootV_square (root_neg h0)
  rw [← hu, pCl_of (pNeg_P a)] at h1
  rw [← hu] at h2
  have ru : Rep (pMul u u) (-(a : Int)) := rep_eq h1 (rep_neg (rep_self a))
  refine ⟨⟨?_, ?_⟩, ?_⟩
  · exact rep_uniq (pSub_P _ _) (pCl_P _) (rep_sub (rep_mul rep_0 rep_0) ru) (rep_cl (rep_self a)) (by grind)
  · exact rep_uniq (pAdd_P _ _) (pCl_P _) (rep_add (rep_mul rep_0 (rep_self u)) (rep_mul (rep_self u) rep_0)) (rep_cl rep_0) (by grind)
  · have hn : pCl u ≠ 0 := fun hz => by
      have e : pMul u u = 0 := by rw [← pMul_pCl, hz]; decide +kernel
      rw [e] at h1
      have h3 := (rootE_21 h0).1
      have h4 := pNeg_neg (a := a)
      rw [← h1] at h4
      exact h3 (h4.symm.trans (by decide +kernel))
    unfold dHigh
    rw [if_neg hn, h2]
theorem lifted_ne {a b s l : Nat} (hb : pCl b ≠ 0) (hs : pMul s s = pAdd (pMul a a) (pMul b b)) (hl : l = pAdd a s ∨ l = pSub a s) : pCl l ≠ 0 := fun hz => by
  have rs : Rep (pAdd (pMul a a) (pMul b b)) ((s : Int) * s) := rep_eq hs.symm (rep_mul (rep_self s) (rep_self s))
  have rn := rep_add (rep_mul (rep_self a) (rep_self a)) (rep_mul (rep_self b) (rep_self b))
  have hbb : pMul b b = 0 := by
    have r1 : Rep (pSub (pAdd (pMul a a) (pMul b b)) (pMul a a)) ((s : Int) * s - (a : Int) * a) := rep_sub rs (rep_mul (rep_self a) (rep_self a))
    have r2 : Rep (pSub (pAdd (pMul a a) (pMul b b)) (pMul a a)) (((a : Int) * a + (b : Int) * b) - (a : Int) * a) := rep_sub rn (rep_mul (rep_self a) (rep_self a))
    have e2 := rep_uniq (pMul_P b b) (pSub_P _ _) (rep_mul (rep_self b) (rep_self b)) r2 (by grind)
    rw [e2]
    rcases hl with hl | hl
    · have r0 : Rep 0 ((a : Int) + s) := rep_eq hz.symm (rep_cl (rep_eq hl (rep_add (rep_self a) (rep_self s))))
      have e := rep_uniq (pSub_P _ _) (pMul_P _ _) r1 (rep_mul r0 (rep_sub (rep_self s) (rep_self a))) (by grind)
      rw [e]; unfold pMul; rw [Nat.zero_mul, Nat.zero_mod]
    · have r0 : Rep 0 ((a : Int) - s) := rep_eq hz.symm (rep_cl (rep_eq hl (rep_sub (rep_self a) (rep_self s))))
      have e := rep_uniq (pSub_P _ _) (pMul_P _ _) r1 (rep_mul r0 (rep_neg (rep_add (rep_self s) (rep_self a)))) (by grind)
      rw [e]; unfold pMul; rw [Nat.zero_mul, Nat.zero_mod]
  rcases pMul_zero hbb with h | h <;> exact hb h
theorem twice_ne {l : Nat} (h : pCl l ≠ 0) : pCl (pAdd l l) ≠ 0 := fun hz => by
  rw [pCl_of (pAdd_P _ _)] at hz
  have e := pAdd_zero (pCl_P l) (a := pCl l) (b := l) (by rw [← hz]; exact rep_uniq (pAdd_P _ _) (pAdd_P _ _) (rep_add (rep_cl (rep_self l)) (rep_self l)) (rep_add (rep_self l) (rep_self l)) (by grind))
  have e2 : pNeg (pCl l) = pCl l := by rw [pNeg_cl]; exact e.symm
  exact h (neg_self (pCl_P l) e2)
theorem lifted_other {a b s : Nat} (hb : pCl b ≠ 0) (hs : pMul s s = pAdd (pMul a a) (pMul b b)) (h : pRootE (pAdd (pAdd a s) (pAdd a s)) = 21) : pRootE (pAdd (pSub a s) (pSub a s)) = 0 := by
  have n2 := twice_ne (lifted_ne hb hs (.inr rfl))
  have rs : Rep (pAdd (pMul a a) (pMul b b)) ((s : Int) * s) := rep_eq hs.symm (rep_mul (rep_self s) (rep_self s))
  have rn := rep_add (rep_mul (rep_self a) (rep_self a)) (rep_mul (rep_self b) (rep_self b))
  have hb2 : pCl (pAdd b b) ≠ 0 := twice_ne hb
  have e : pMul (pAdd (pAdd a s) (pAdd a s)) (pAdd (pSub a s) (pSub a s)) = pNeg (pMul (pAdd b b) (pAdd b b)) := by
    have rl := rep_mul (rep_add (rep_add (rep_self a) (rep_self s)) (rep_add (rep_self a) (rep_self s))) (rep_add (rep_sub (rep_self a) (rep_self s)) (rep_sub (rep_self a) (rep_self s)))
    have r4 : Rep (pSub (pMul (pAdd (pAdd a a) (pAdd a a)) a) (pMul 4 (pAdd (pMul a a) (pMul b b)))) ((((a : Int) + a) + ((a : Int) + a)) * a - 4 * ((s : Int) * s)) :=
      rep_sub (rep_mul (rep_add (rep_add (rep_self a) (rep_self a)) (rep_add (rep_self a) (rep_self a))) (rep_self a)) (rep_mul (rep_self 4) rs)
    have r5 : Rep (pSub (pMul (pAdd (pAdd a a) (pAdd a a)) a) (pMul 4 (pAdd (pMul a a) (pMul b b)))) ((((a : Int) + a) + ((a : Int) + a)) * a - 4 * ((a : Int) * a + (b : Int) * b)) :=
      rep_sub (rep_mul (rep_add (rep_add (rep_self a) (rep_self a)) (rep_add (rep_self a) (rep_self a))) (rep_self a)) (rep_mul (rep_self 4) rn)
    have e1 := rep_uniq (pMul_P _ _) (pSub_P _ _) rl r4 (by grind)
    rw [e1]
    exact rep_uniq (pSub_P _ _) (pNeg_P _) r5 (rep_neg (rep_mul (rep_add (rep_self b) (rep_self b)) (rep_add (rep_self b) (rep_self b)))) (by grind)
  have hx := congrArg pChi e
  rw [chi_mul, chi_neg, chi_mul, chi_square hb2, (rootE_21 h).2] at hx
  rw [rootE_iff]
  right
  rcases chi_cases n2 with h1 | h1
  · exact h1
  · rw [h1] at hx
    exact absurd hx (by decide +kernel)
theorem mixed_sq {a b s l u i : Nat} (hb : pCl b ≠ 0) (hs : pMul s s = pAdd (pMul a a) (pMul b b)) (hl : l = pAdd a s ∨ l = pSub a s) (hu : u = pRootV (pAdd l l)) (he : pRootE (pAdd l l) = 0) (hi : i = pInv u) :
    IsSq (pMul l i) (pMul b i) a b := by
  obtain ⟨h1, _⟩ := rootV_square he
  rw [← hu, pCl_of (pAdd_P _ _)] at h1
  have hln := lifted_ne hb hs hl
  have hun : pCl u ≠ 0 := fun hz => by
    have e : pMul u u = 0 := by rw [← pMul_pCl, hz]; decide +kernel
    rw [e] at h1
    exact twice_ne hln (by rw [← h1]; decide +kernel)
  have h2 := pInv_mul hun
  rw [← hi] at h2
  have r1 : Rep 1 ((u : Int) * i) := rep_eq h2.symm (rep_mul (rep_self u) (rep_self i))
  -- 1 stands for 2 l i i
  have ru : Rep (pMul u u) ((l : Int) + l) := rep_eq h1 (rep_add (rep_self l) (rep_self l))
  have q1 : Rep (pMul (pMul u u) (pMul i i)) (((l : Int) + l) * ((i : Int) * i)) := rep_mul ru (rep_mul (rep_self i) (rep_self i))
  have q2 : Rep (pMul 1 1) (((u : Int) * i) * ((u : Int) * i)) := rep_mul r1 r1
  have q3 : Rep (pMul (pMul u u) (pMul i i)) (((u : Int) * u) * ((i : Int) * i)) := rep_mul (rep_mul (rep_self u) (rep_self u)) (rep_mul (rep_self i) (rep_self i))
  have e1 := rep_uniq (pMul_P _ _) (pMul_P _ _) q3 q2 (by grind)
  rw [e1] at q1
  have hone : pMul 1 1 = 1 := by decide +kernel
  rw [hone] at q1
  -- l l - b b stands for 2 a l
  have rs : Rep (pAdd (pMul a a) (pMul b b)) ((s : Int) * s) := rep_eq hs.symm (rep_mul (rep_self s) (rep_self s))
  have rn := rep_add (rep_mul (rep_self a) (rep_self a)) (rep_mul (rep_self b) (rep_self b))
  have key : pSub (pMul l l) (pMul b b) = pMul (pAdd a a) l := by
    rcases hl with hl | hl
    · have rl := rep_eq hl (rep_add (rep_self a) (rep_self s))
      have a1 : Rep (pAdd (pSub (pMul l l) (pMul b b)) (pSub (pAdd (pMul a a) (pMul b b)) (pAdd (pMul a a) (pMul b b)))) (((((a : Int) + s) * ((a : Int) + s)) - (b : Int) * b) + (((a : Int) * a + (b : Int) * b) - (s : Int) * s)) := rep_add (rep_sub (rep_mul rl rl) (rep_mul (rep_self b) (rep_self b))) (rep_sub rn rs)
      have a2 : Rep (pAdd (pSub (pMul l l) (pMul b b)) (pSub (pAdd (pMul a a) (pMul b b)) (pAdd (pMul a a) (pMul b b)))) ((((l : Int) * l) - (b : Int) * b) + (((a : Int) * a + (b : Int) * b) - ((a : Int) * a + (b : Int) * b))) := rep_add (rep_sub (rep_mul (rep_self l) (rep_self l)) (rep_mul (rep_self b) (rep_self b))) (rep_sub rn rn)
      have e2 := rep_uniq (pSub_P _ _) (pAdd_P _ _) (rep_sub (rep_mul (rep_self l) (rep_self l)) (rep_mul (rep_self b) (rep_self b))) a2 (by grind)
      rw [e2]
      exact rep_uniq (pAdd_P _ _) (pMul_P _ _) a1 (rep_mul (rep_add (rep_self a) (rep_self a)) rl) (by grind)
    · have rl := rep_eq hl (rep_sub (rep_self a) (rep_self s))
      have a1 : Rep (pAdd (pSub (pMul l l) (pMul b b)) (pSub (pAdd (pMul a a) (pMul b b)) (pAdd (pMul a a) (pMul b b)))) (((((a : Int) - s) * ((a : Int) - s)) - (b : Int) * b) + (((a : Int) * a + (b : Int) * b) - (s : Int) * s)) := rep_add (rep_sub (rep_mul rl rl) (rep_mul (rep_self b) (rep_self b))) (rep_sub rn rs)
      have a2 : Rep (pAdd (pSub (pMul l l) (pMul b b)) (pSub (pAdd (pMul a a) (pMul b b)) (pAdd (pMul a a) (pMul b b)))) ((((l : Int) * l) - (b : Int) * b) + (((a : Int) * a + (b : Int) * b) - ((a : Int) * a + (b : Int) * b))) := rep_add (rep_sub (rep_mul (rep_self l) (rep_self l)) (rep_mul (rep_self b) (rep_self b))) (rep_sub rn rn)
      have e2 := rep_uniq (pSub_P _ _) (pAdd_P _ _) (rep_sub (rep_mul (rep_self l) (rep_self l)) (rep_mul (rep_self b) (rep_self b))) a2 (by grind)
      rw [e2]
      exact rep_uniq (pAdd_P _ _) (pMul_P _ _) a1 (rep_mul (rep_add (rep_self a) (rep_self a)) rl) (by grind)
  have rk : Rep (pSub (pMul l l) (pMul b b)) (((a : Int) + a) * l) := rep_eq key (rep_mul (rep_add (rep_self a) (rep_self a)) (rep_self l))
  have rli := rep_mul (rep_self l) (rep_self i)
  have rbi := rep_mul (rep_self b) (rep_self i)
  constructor
  · have c1 := rep_sub (rep_mul rli rli) (rep_mul rbi rbi)
    have c2 : Rep (pMul (pSub (pMul l l) (pMul b b)) (pMul i i)) ((((l : Int) * l) - (b : Int) * b) * ((i : Int) * i)) := rep_mul (rep_sub (rep_mul (rep_self l) (rep_self l)) (rep_mul (rep_self b) (rep_self b))) (rep_mul (rep_self i) (rep_self i))
    have c3 : Rep (pMul (pSub (pMul l l) (pMul b b)) (pMul i i)) ((((a : Int) + a) * l) * ((i : Int) * i)) := rep_mul rk (rep_mul (rep_self i) (rep_self i))
    have c4 : Rep (pMul a 1) ((a : Int) * (((l : Int) + l) * ((i : Int) * i))) := rep_mul (rep_self a) q1
    rw [rep_uniq (pSub_P _ _) (pMul_P _ _) c1 c2 (by grind), rep_uniq (pMul_P _ _) (pMul_P _ _) c3 c4 (by grind)]
    unfold pMul pCl
    rw [Nat.mul_one]
  · have c1 := rep_add (rep_mul rli rbi) (rep_mul rbi rli)
    have c4 : Rep (pMul b 1) ((b : Int) * (((l : Int) + l) * ((i : Int) * i))) := rep_mul (rep_self b) q1
    rw [rep_uniq (pAdd_P _ _) (pMul_P _ _) c1 c4 (by grind)]
    unfold pMul pCl
    rw [Nat.mul_one]
theorem dHigh_neg {a b : Nat} (h : ¬ (pCl a = 0 ∧ pCl b = 0)) : dHigh (pNeg a) (pNeg b) = !dHigh a b := by
  unfold dHigh
  rw [pCl_of (pNeg_P b)]
  by_cases hb : pCl b = 0
  · rw [if_pos hb, if_pos (pNeg_zero hb)]
    exact high_neg (fun ha => h ⟨ha, hb⟩)
  · rw [if_neg hb, if_neg (fun hz => hb (by rw [← pNeg_neg, hz]; decide +kernel))]
    exact high_neg hb
theorem dHigh_zero {a b : Nat} (h : pCl a = 0 ∧ pCl b = 0) : dHigh a b = false := by
  unfold dHigh
  rw [if_pos h.2, high_zero h.1]
theorem sq_neg {v0 v1 a b : Nat} (h : IsSq v0 v1 a b) : IsSq (pNeg v0) (pNeg v1) a b := by
  obtain ⟨h1, h2⟩ := h
  have r0 := rep_neg (rep_self v0)
  have r1 := rep_neg (rep_self v1)
  refine ⟨?_, ?_⟩
  · rw [← h1]
    exact rep_uniq (pSub_P _ _) (pSub_P _ _) (rep_sub (rep_mul r0 r0) (rep_mul r1 r1)) (rep_sub (rep_mul (rep_self v0) (rep_self v0)) (rep_mul (rep_self v1) (rep_self v1))) (by grind)
  · rw [← h2]
    exact rep_uniq (pAdd_P _ _) (pAdd_P _ _) (rep_add (rep_mul r0 r1) (rep_mul r1 r0)) (rep_add (rep_mul (rep_self v0) (rep_self v1)) (rep_mul (rep_self v1) (rep_self v0))) (by grind)
structure RootOf (a b v0 v1 : Nat) (e : Int) : Prop where
  b0 : v0 < pN
  b1 : v1 < pN
  ok : e = 0 ∨ (e = 21 ∧ v0 = 0 ∧ v1 = 0)
  sq : e = 0 → IsSq v0 v1 a b ∧ dHigh v0 v1 = false
  why : e = 0 ↔ (pCl b = 0 ∨ pRootE (pAdd (pMul (pCl a) (pCl a)) (pMul (pCl b) (pCl b))) = 0)
theorem IsSq.cl {v0 v1 a b : Nat} (h : IsSq v0 v1 (pCl a) (pCl b)) : IsSq v0 v1 a b := by
  obtain ⟨h1, h2⟩ := h
  rw [pCl_cl] at h1 h2
  exact ⟨h1, h2⟩
theorem duoRoot_v (a b : Nat) (ha : a < fpB) (hb : b < fpB) : ∃ v0 v1 e, RootOf a b v0 v1 e ∧ ∀ w : World, Calls Tryz.prog 20 #[nv 6 [a, b]] w (Is (.tuple #[nv 6 [v0, v1], .int .i64 e]) w) := by
  by_cases hz : pCl b = 0
  · rcases rootE_or (pCl a) with h0 | h0
    · obtain ⟨v, hv⟩ : ∃ v, v = pRootV (pCl a) := ⟨_, rfl⟩
      obtain ⟨h1, h2⟩ := plain_sq hv h0
      refine ⟨v, 0, 0, ⟨by rw [hv]; exact rootV_P _, zero_P, .inl rfl, fun _ => ⟨IsSq.cl (by rw [hz]; exact h1), h2⟩, ⟨fun _ => .inl hz, fun _ => rfl⟩⟩, fun w => ?_⟩
      exact duoRoot_plain a b w ha hb v 0 hz (fun W => plain_ok (pCl a) W (pCl_B a) v hv h0.symm)
    · obtain ⟨v, hv⟩ : ∃ v, v = pRootV (pCl a) := ⟨_, rfl⟩
      obtain ⟨u, hu⟩ : ∃ u, u = pRootV (pNeg (pCl a)) := ⟨_, rfl⟩
      obtain ⟨h1, h2⟩ := plain_sq' h0 hu
      refine ⟨0, u, 0, ⟨zero_P, by rw [hu]; exact rootV_P _, .inl rfl, fun _ => ⟨IsSq.cl (by rw [hz]; exact h1), h2⟩, ⟨fun _ => .inl hz, fun _ => rfl⟩⟩, fun w => ?_⟩
      exact duoRoot_plain a b w ha hb 0 u hz (fun W => plain_no (pCl a) W (pCl_B a) v hv h0.symm u hu _ rfl)
  · obtain ⟨s, hs⟩ : ∃ s, s = pRootV (pAdd (pMul (pCl a) (pCl a)) (pMul (pCl b) (pCl b))) := ⟨_, rfl⟩
    rcases rootE_or (pAdd (pMul (pCl a) (pCl a)) (pMul (pCl b) (pCl b))) with h0 | h0
    · have hb' : pCl (pCl b) ≠ 0 := by rw [pCl_cl]; exact hz
      have hss := (rootV_square h0).1
      rw [← hs, pCl_of (pAdd_P _ _)] at hss
      -- what mixedRoot answers
      obtain ⟨m0, m1, bm0, bm1, hsq, HM⟩ : ∃ m0 m1, m0 < pN ∧ m1 < pN ∧ IsSq m0 m1 (pCl a) (pCl b) ∧ ∀ W : World, Calls Tryz.prog 57 #[nv 6 [pCl a, pCl b]] W (Is (.tuple #[nv 6 [m0, m1], .int .i64 0]) W) := by
        obtain ⟨l1, hl1⟩ : ∃ l, l = pAdd (pCl a) s := ⟨_, rfl⟩
        rcases rootE_or (pAdd l1 l1) with h1 | h1
        · obtain ⟨u, hu⟩ : ∃ u, u = pRootV (pAdd l1 l1) := ⟨_, rfl⟩
          obtain ⟨i, hi⟩ : ∃ i, i = pInv u := ⟨_, rfl⟩
          exact ⟨_, _, pMul_P _ _, pMul_P _ _, mixed_sq hb' hss (.inl hl1) hu h1 hi, fun W => mixed_one (pCl a) (pCl b) W (pCl_B a) (pCl_B b) s hs h0.symm l1 hl1 u hu h1.symm i hi⟩
        · obtain ⟨u1, hu1⟩ : ∃ u, u = pRootV (pAdd l1 l1) := ⟨_, rfl⟩
          obtain ⟨l, hl⟩ : ∃ l, l = pSub (pCl a) s := ⟨_, rfl⟩
          obtain ⟨u, hu⟩ : ∃ u, u = pRootV (pAdd l l) := ⟨_, rfl⟩
          obtain ⟨i, hi⟩ : ∃ i, i = pInv u := ⟨_, rfl⟩
          have h2 : pRootE (pAdd l l) = 0 := by rw [hl]; exact lifted_other hb' hss (by rw [← hl1]; exact h1)
          exact ⟨_, _, pMul_P _ _, pMul_P _ _, mixed_sq hb' hss (.inr hl) hu h2 hi, fun W => mixed_two (pCl a) (pCl b) W (pCl_B a) (pCl_B b) s hs h0.symm l1 hl1 u1 hu1 h1.symm l hl u hu _ rfl i hi⟩
      have hwhy : (0 : Int) = 0 ↔ (pCl b = 0 ∨ pRootE (pAdd (pMul (pCl a) (pCl a)) (pMul (pCl b) (pCl b))) = 0) := ⟨fun _ => .inr h0, fun _ => rfl⟩
      cases hh : dHigh m0 m1 with
      | true =>
        have hn : ¬ (pCl m0 = 0 ∧ pCl m1 = 0) := fun hq => by rw [dHigh_zero hq] at hh; cases hh
        refine ⟨_, _, 0, ⟨pNeg_P m0, pNeg_P m1, .inl rfl, fun _ => ⟨IsSq.cl (sq_neg hsq), by rw [dHigh_neg hn, hh]; rfl⟩, hwhy⟩, fun w => ?_⟩
        exact duoRoot_hi a b w ha hb m0 m1 hz HM (Nat.lt_trans bm0 fpM_lt) (Nat.lt_trans bm1 fpM_lt) hh.symm
      | false =>
        refine ⟨m0, m1, 0, ⟨bm0, bm1, .inl rfl, fun _ => ⟨IsSq.cl hsq, hh⟩, hwhy⟩, fun w => ?_⟩
        exact duoRoot_lo a b w ha hb m0 m1 hz HM (Nat.lt_trans bm0 fpM_lt) (Nat.lt_trans bm1 fpM_lt) hh.symm
    · refine ⟨0, 0, 21, ⟨zero_P, zero_P, .inr ⟨rfl, rfl, rfl⟩, (fun h => by cases h), ⟨(fun h => by cases h), ?_⟩⟩, fun w => ?_⟩
      · rintro (h | h)
        · exact absurd h hz
        · rw [h] at h0; cases h0
      · exact duoRoot_none a b w ha hb 0 0 hz (fun W => mixed_none (pCl a) (pCl b) W (pCl_B a) (pCl_B b) s hs h0.symm)
end Go.Proofs.YtplbcdafelejbaaGreatDoor

/- What is proved here: the law DuoRoots. -/
import Derived.Test.YtgkdkahgiihlfaaDuoRoot
namespace Go.Proofs.Ytgkdkahgiihlfaa
open Go.RowKit

set_option maxRecDepth 20000 in
set_option maxHeartbeats 4000000 in
theorem r5High_z (a b : Nat) (w : World) (ha : a < pN) (hb : b < pN) (hz : b = 0) (r : Bool) (hr : r = dHigh a b) :
    Calls Try.prog 46 #[nv 6 [a, b]] w (Is (.bool r) w) := by
  go_enter Try.func46, Try.ntmps46
  refine seq_lit ?_
  refine sq_new (a' := ⟨#[nv 6 [a, b], pt w.heap.size, ud, ud, ud, ud, ud, ud, ud, ud, ud, ud, ud], []⟩) (xs := rows 6 [a, b]) rfl rfl (ex_boxn (K := 6) (l := [a, b]) rfl) ?_
  intro w1 N1 hb1
  have HB2 := below_then (Below.refl w.heap.size w) hb1
  refine sq_val (a' := ⟨#[nv 6 [a, b], pt w.heap.size, .bool false, ud, ud, ud, ud, ud, ud, ud, ud, ud, ud], []⟩) (v := .bool false) rfl rfl (ex_assign _) ?_
  refine seq_nil ?_
  refine wp_seq ?_
  refine seq_lit ?_
  refine sq_val (a' := ⟨#[nv 6 [a, b], pt w.heap.size, .bool false, .pointer (some ⟨w.heap.size, 6, none⟩), ud, ud, ud, ud, ud, ud, ud, ud, ud], []⟩) (v := .pointer (some ⟨w.heap.size, 6, none⟩)) rfl rfl (ex_field faFp2_1 rfl) ?_
  refine sq_val (a' := ⟨#[nv 6 [a, b], pt w.heap.size, .bool false, .pointer (some ⟨w.heap.size, 6, none⟩), nv 6 [b], ud, ud, ud, ud, ud, ud, ud, ud], []⟩) (v := nv 6 [b]) rfl rfl (ex_loadn (K := 6) (k := 1) (j := 1) (l := [a, b]) flFp rfl N1 rfl _ rfl) ?_
  refine sq_val (a' := ⟨#[nv 6 [a, b], pt w.heap.size, .bool false, .pointer (some ⟨w.heap.size, 6, none⟩), nv 6 [b], nv 6 [0], ud, ud, ud, ud, ud, ud, ud], []⟩) (v := nv 6 [0]) rfl rfl (ex_zero) ?_
  refine sq_val (a' := ⟨#[nv 6 [a, b], pt w.heap.size, .bool false, .pointer (some ⟨w.heap.size, 6, none⟩), nv 6 [b], nv 6 [0], .bool true, ud, ud, ud, ud, ud, ud], []⟩) (v := .bool true) rfl rfl (ex_eqn (K := 6) (l := [b]) (m := [0]) eqFp rfl rfl rfl rfl rfl (fpB_all1 (Nat.lt_trans hb fpM_lt)) (fpB_all1 zero_B) rfl true (by rw [hz]; rfl)) ?_
  refine seq_nil ?_
  refine wp_cond_true rfl ?_
  refine seq_lit ?_
  refine sq_val (a' := ⟨#[nv 6 [a, b], pt w.heap.size, .bool false, .pointer (some ⟨w.heap.size, 6, none⟩), nv 6 [b], nv 6 [0], .bool true, pt w.heap.size, ud, ud, ud, ud, ud], []⟩) (v := pt w.heap.size) rfl rfl (ex_field faFp2_0 rfl) ?_
  refine sq_val (a' := ⟨#[nv 6 [a, b], pt w.heap.size, .bool false, .pointer (some ⟨w.heap.size, 6, none⟩), nv 6 [b], nv 6 [0], .bool true, pt w.heap.size, nv 6 [a], ud, ud, ud, ud], []⟩) (v := nv 6 [a]) rfl rfl (ex_loadn (K := 6) (k := 0) (j := 1) (l := [a, b]) flFp rfl N1 rfl _ rfl) ?_
  refine sq_call (a' := ⟨#[nv 6 [a, b], pt w.heap.size, .bool false, .pointer (some ⟨w.heap.size, 6, none⟩), nv 6 [b], nv 6 [0], .bool true, pt w.heap.size, nv 6 [a], .bool r, ud, ud, ud], []⟩) (v := .bool r) rfl rfl (ex_call (vs := [nv 6 [a]]) rfl Try.call15 rfl) (r4High_v a _ ha r (by rw [hr]; unfold dHigh; rw [pCl_of hb, if_pos hz])) ?_
  intro w3 hb3
  have A4 := N1.keep hb3
  have HB5 := below_then HB2 hb3
  refine sq_val (a' := ⟨#[nv 6 [a, b], pt w.heap.size, .bool r, .pointer (some ⟨w.heap.size, 6, none⟩), nv 6 [b], nv 6 [0], .bool true, pt w.heap.size, nv 6 [a], .bool r, ud, ud, ud], []⟩) (v := .bool r) rfl rfl (ex_assign _) ?_
  refine seq_nil ?_
  exact wp_ret (bodyPost_ret (ret_tmp Try.results46 rfl) rfl ⟨rfl, HB5⟩)

set_option maxRecDepth 20000 in
set_option maxHeartbeats 4000000 in
theorem r5High_n (a b : Nat) (w : World) (_ha : a < pN) (hb : b < pN) (hz : b ≠ 0) (r : Bool) (hr : r = dHigh a b) :
    Calls Try.prog 46 #[nv 6 [a, b]] w (Is (.bool r) w) := by
  go_enter Try.func46, Try.ntmps46
  refine seq_lit ?_
  refine sq_new (a' := ⟨#[nv 6 [a, b], pt w.heap.size, ud, ud, ud, ud, ud, ud, ud, ud, ud, ud, ud], []⟩) (xs := rows 6 [a, b]) rfl rfl (ex_boxn (K := 6) (l := [a, b]) rfl) ?_
  intro w1 N1 hb1
  have HB2 := below_then (Below.refl w.heap.size w) hb1
  refine sq_val (a' := ⟨#[nv 6 [a, b], pt w.heap.size, .bool false, ud, ud, ud, ud, ud, ud, ud, ud, ud, ud], []⟩) (v := .bool false) rfl rfl (ex_assign _) ?_
  refine seq_nil ?_
  refine wp_seq ?_
  refine seq_lit ?_
  refine sq_val (a' := ⟨#[nv 6 [a, b], pt w.heap.size, .bool false, .pointer (some ⟨w.heap.size, 6, none⟩), ud, ud, ud, ud, ud, ud, ud, ud, ud], []⟩) (v := .pointer (some ⟨w.heap.size, 6, none⟩)) rfl rfl (ex_field faFp2_1 rfl) ?_
  refine sq_val (a' := ⟨#[nv 6 [a, b], pt w.heap.size, .bool false, .pointer (some ⟨w.heap.size, 6, none⟩), nv 6 [b], ud, ud, ud, ud, ud, ud, ud, ud], []⟩) (v := nv 6 [b]) rfl rfl (ex_loadn (K := 6) (k := 1) (j := 1) (l := [a, b]) flFp rfl N1 rfl _ rfl) ?_
  refine sq_val (a' := ⟨#[nv 6 [a, b], pt w.heap.size, .bool false, .pointer (some ⟨w.heap.size, 6, none⟩), nv 6 [b], nv 6 [0], ud, ud, ud, ud, ud, ud, ud], []⟩) (v := nv 6 [0]) rfl rfl (ex_zero) ?_
  refine sq_val (a' := ⟨#[nv 6 [a, b], pt w.heap.size, .bool false, .pointer (some ⟨w.heap.size, 6, none⟩), nv 6 [b], nv 6 [0], .bool false, ud, ud, ud, ud, ud, ud], []⟩) (v := .bool false) rfl rfl (ex_eqn (K := 6) (l := [b]) (m := [0]) eqFp rfl rfl rfl rfl rfl (fpB_all1 (Nat.lt_trans hb fpM_lt)) (fpB_all1 zero_B) rfl false (decide_eq_false (fun hq => hz (by injection hq))).symm) ?_
  refine seq_nil ?_
  refine wp_cond_false rfl ?_
  refine wp_skip (then_n ?_)
  refine seq_lit ?_
  refine sq_val (a' := ⟨#[nv 6 [a, b], pt w.heap.size, .bool false, .pointer (some ⟨w.heap.size, 6, none⟩), nv 6 [b], nv 6 [0], .bool false, ud, ud, ud, .pointer (some ⟨w.heap.size, 6, none⟩), ud, ud], []⟩) (v := .pointer (some ⟨w.heap.size, 6, none⟩)) rfl rfl (ex_field faFp2_1 rfl) ?_
  refine sq_val (a' := ⟨#[nv 6 [a, b], pt w.heap.size, .bool false, .pointer (some ⟨w.heap.size, 6, none⟩), nv 6 [b], nv 6 [0], .bool false, ud, ud, ud, .pointer (some ⟨w.heap.size, 6, none⟩), nv 6 [b], ud], []⟩) (v := nv 6 [b]) rfl rfl (ex_loadn (K := 6) (k := 1) (j := 1) (l := [a, b]) flFp rfl N1 rfl _ rfl) ?_
  refine sq_call (a' := ⟨#[nv 6 [a, b], pt w.heap.size, .bool false, .pointer (some ⟨w.heap.size, 6, none⟩), nv 6 [b], nv 6 [0], .bool false, ud, ud, ud, .pointer (some ⟨w.heap.size, 6, none⟩), nv 6 [b], .bool r], []⟩) (v := .bool r) rfl rfl (ex_call (vs := [nv 6 [b]]) rfl Try.call15 rfl) (r4High_v b _ hb r (by rw [hr]; unfold dHigh; rw [pCl_of hb, if_neg hz])) ?_
  intro w3 hb3
  have A4 := N1.keep hb3
  have HB5 := below_then HB2 hb3
  refine sq_val (a' := ⟨#[nv 6 [a, b], pt w.heap.size, .bool r, .pointer (some ⟨w.heap.size, 6, none⟩), nv 6 [b], nv 6 [0], .bool false, ud, ud, ud, .pointer (some ⟨w.heap.size, 6, none⟩), nv 6 [b], .bool r], []⟩) (v := .bool r) rfl rfl (ex_assign _) ?_
  refine seq_nil ?_
  exact wp_ret (bodyPost_ret (ret_tmp Try.results46 rfl) rfl ⟨rfl, HB5⟩)

theorem r5High_v (a b : Nat) (w : World) (ha : a < pN) (hb : b < pN) (r : Bool) (hr : r = dHigh a b) : Calls Try.prog 46 #[nv 6 [a, b]] w (Is (.bool r) w) := by
  by_cases hz : b = 0
  · exact r5High_z a b w ha hb hz r hr
  · exact r5High_n a b w ha hb hz r hr

set_option maxRecDepth 20000 in
set_option maxHeartbeats 4000000 in
theorem r5Square_none (a b : Nat) (w : World) (ha : a < pN) (hb : b < pN) (h : pRootE (pAdd (pMul a a) (pMul b b)) = 21) :
    Calls Try.prog 48 #[nv 6 [a, b]] w (Is (.bool false) w) := by
  go_enter Try.func48, Try.ntmps48
  refine seq_lit ?_
  refine sq_new (a' := ⟨#[nv 6 [a, b], pt w.heap.size, ud, ud, ud, ud, ud, ud, ud, ud, ud, ud, ud, ud, ud, ud, ud], []⟩) (xs := rows 6 [a, b]) rfl rfl (ex_boxn (K := 6) (l := [a, b]) rfl) ?_
  intro w1 N1 hb1
  have HB2 := below_then (Below.refl w.heap.size w) hb1
  refine sq_val (a' := ⟨#[nv 6 [a, b], pt w.heap.size, .bool false, ud, ud, ud, ud, ud, ud, ud, ud, ud, ud, ud, ud, ud, ud], []⟩) (v := .bool false) rfl rfl (ex_assign _) ?_
  refine seq_nil ?_
  refine wp_seq (wp_region_one (F := fun γ => ⟨#[nv 6 [a, b], pt w.heap.size, .bool false, pt γ, pt w.heap.size, nv 6 [a], pt w.heap.size, nv 6 [a], nv 6 [(pMul a a)], .pointer (some ⟨w.heap.size, 6, none⟩), nv 6 [b], .pointer (some ⟨w.heap.size, 6, none⟩), nv 6 [b], nv 6 [(pMul b b)], nv 6 [(pAdd (pMul a a) (pMul b b))], ud, ud], []⟩) 24 6 11 12 [0] [(pAdd (pMul a a) (pMul b b))] [(3, pt 0), (4, pt w.heap.size), (5, nv 6 [a]), (6, pt w.heap.size), (7, nv 6 [a]), (8, nv 6 [(pMul a a)]), (9, .pointer (some ⟨w.heap.size, 6, none⟩)), (10, nv 6 [b]), (11, .pointer (some ⟨w.heap.size, 6, none⟩)), (12, nv 6 [b]), (13, nv 6 [(pMul b b)]), (14, nv 6 [(pAdd (pMul a a) (pMul b b))])] (by kernel_rfl) (by kernel_rfl) (by kernel_rfl) (by kernel_rfl) rfl (by simp only [putAll, List.setIfInBounds_toArray, List.set_cons_zero, List.set_cons_succ]) rfl rfl ?_ ?_)
  · refine GSteps.cons (g1_val (v := pt w.heap.size) rfl (fun γ => rfl) (fun γ => rfl) (fun γ W' h => ex_field faFp2_0 rfl) rfl rfl) ?_
    refine GSteps.cons (g1_val (v := nv 6 [a]) rfl (fun γ => rfl) (fun γ => rfl) (fun γ W' h => ex_loadn (K := 6) (k := 0) (j := 1) (l := [a, b]) flFp rfl (N1.keep h.out) rfl _ rfl) rfl rfl) ?_
    refine GSteps.cons (g1_val (v := pt w.heap.size) rfl (fun γ => rfl) (fun γ => rfl) (fun γ W' h => ex_field faFp2_0 rfl) rfl rfl) ?_
    refine GSteps.cons (g1_val (v := nv 6 [a]) rfl (fun γ => rfl) (fun γ => rfl) (fun γ W' h => ex_loadn (K := 6) (k := 0) (j := 1) (l := [a, b]) flFp rfl (N1.keep h.out) rfl _ rfl) rfl rfl) ?_
    refine GSteps.cons (g1_call (v := nv 6 [(pMul a a)]) rfl (fun γ => rfl) (fun γ => rfl) (fun γ W' => ex_call (vs := [nv 6 [a], nv 6 [a]]) rfl Try.call19 rfl) (fun W' h => r4Mul_p a a _ ha ha) rfl rfl) ?_
    refine GSteps.cons (g1_val (v := .pointer (some ⟨w.heap.size, 6, none⟩)) rfl (fun γ => rfl) (fun γ => rfl) (fun γ W' h => ex_field faFp2_1 rfl) rfl rfl) ?_
    refine GSteps.cons (g1_val (v := nv 6 [b]) rfl (fun γ => rfl) (fun γ => rfl) (fun γ W' h => ex_loadn (K := 6) (k := 1) (j := 1) (l := [a, b]) flFp rfl (N1.keep h.out) rfl _ rfl) rfl rfl) ?_
    refine GSteps.cons (g1_val (v := .pointer (some ⟨w.heap.size, 6, none⟩)) rfl (fun γ => rfl) (fun γ => rfl) (fun γ W' h => ex_field faFp2_1 rfl) rfl rfl) ?_
    refine GSteps.cons (g1_val (v := nv 6 [b]) rfl (fun γ => rfl) (fun γ => rfl) (fun γ W' h => ex_loadn (K := 6) (k := 1) (j := 1) (l := [a, b]) flFp rfl (N1.keep h.out) rfl _ rfl) rfl rfl) ?_
    refine GSteps.cons (g1_call (v := nv 6 [(pMul b b)]) rfl (fun γ => rfl) (fun γ => rfl) (fun γ W' => ex_call (vs := [nv 6 [b], nv 6 [b]]) rfl Try.call19 rfl) (fun W' h => r4Mul_p b b _ hb hb) rfl rfl) ?_
    refine GSteps.cons (g1_call (v := nv 6 [(pAdd (pMul a a) (pMul b b))]) rfl (fun γ => rfl) (fun γ => rfl) (fun γ W' => ex_call (vs := [nv 6 [(pMul a a)], nv 6 [(pMul b b)]]) rfl Try.call54 rfl) (fun W' h => r4Add_p (pMul a a) (pMul b b) _ (pMul_P _ _) (pMul_P _ _)) rfl rfl) ?_
    refine GSteps.cons (g1_new (fun γ => rfl) (fun γ n => rfl) (fun γ W' => ex_alloc zFp) rfl rfl (by kernel_rfl)) ?_
    refine GSteps.cons (g1_store rfl (fun γ => rfl) rfl (fun γ W' hA => ex_storen (K := 6) (l := [0]) (m := [(pAdd (pMul a a) (pMul b b))]) flFp rfl rfl hA rfl) rfl rfl (by kernel_rfl)) ?_
    exact GSteps.nil
  intro g3 w3 hb3 le3 N3
  refine then_n ?_
  have A4 := N1.keep hb3.out
  have HB5 := below_then HB2 hb3.out
  refine seq_lit ?_
  refine sq_val (a' := ⟨#[nv 6 [a, b], pt w.heap.size, .bool false, pt g3, pt w.heap.size, nv 6 [a], pt w.heap.size, nv 6 [a], nv 6 [(pMul a a)], .pointer (some ⟨w.heap.size, 6, none⟩), nv 6 [b], .pointer (some ⟨w.heap.size, 6, none⟩), nv 6 [b], nv 6 [(pMul b b)], nv 6 [(pAdd (pMul a a) (pMul b b))], nv 6 [(pAdd (pMul a a) (pMul b b))], ud], []⟩) (v := nv 6 [(pAdd (pMul a a) (pMul b b))]) rfl rfl (ex_loadn (K := 6) (k := 0) (j := 1) (l := [(pAdd (pMul a a) (pMul b b))]) flFp rfl N3 rfl _ rfl) ?_
  refine sq_call (a' := ⟨#[nv 6 [a, b], pt w.heap.size, .bool false, pt g3, pt w.heap.size, nv 6 [a], pt w.heap.size, nv 6 [a], nv 6 [(pMul a a)], .pointer (some ⟨w.heap.size, 6, none⟩), nv 6 [b], .pointer (some ⟨w.heap.size, 6, none⟩), nv 6 [b], nv 6 [(pMul b b)], nv 6 [(pAdd (pMul a a) (pMul b b))], nv 6 [(pAdd (pMul a a) (pMul b b))], .bool false], []⟩) (v := .bool false) rfl rfl (ex_call (vs := [nv 6 [(pAdd (pMul a a) (pMul b b))]]) rfl Try.call20 rfl) (r4Square_none (pAdd (pMul a a) (pMul b b)) _ (pAdd_P _ _) h) ?_
  intro w6 hb6
  have A7 := A4.keep hb6
  have A8 := N3.keep hb6
  have HB9 := below_then HB5 hb6
  refine sq_val (a' := ⟨#[nv 6 [a, b], pt w.heap.size, .bool false, pt g3, pt w.heap.size, nv 6 [a], pt w.heap.size, nv 6 [a], nv 6 [(pMul a a)], .pointer (some ⟨w.heap.size, 6, none⟩), nv 6 [b], .pointer (some ⟨w.heap.size, 6, none⟩), nv 6 [b], nv 6 [(pMul b b)], nv 6 [(pAdd (pMul a a) (pMul b b))], nv 6 [(pAdd (pMul a a) (pMul b b))], .bool false], []⟩) (v := .bool false) rfl rfl (ex_assign _) ?_
  refine seq_nil ?_
  exact wp_ret (bodyPost_ret (ret_tmp Try.results48 rfl) rfl ⟨rfl, HB9⟩)

set_option maxRecDepth 20000 in
set_option maxHeartbeats 4000000 in
theorem r5Right_w (a b : Nat) (w : World) (ha : a < pN) (hb : b < pN)  :
    Calls Try.prog 47 #[nv 6 [a, b]] w (Is (.bool true) w) := by
  go_enter Try.func47, Try.ntmps47
  refine seq_lit ?_
  refine sq_new (a' := ⟨#[nv 6 [a, b], pt w.heap.size, ud, ud, ud, ud, ud], []⟩) (xs := rows 6 [a, b]) rfl rfl (ex_boxn (K := 6) (l := [a, b]) rfl) ?_
  intro w1 N1 hb1
  have HB2 := below_then (Below.refl w.heap.size w) hb1
  refine sq_val (a' := ⟨#[nv 6 [a, b], pt w.heap.size, .bool false, ud, ud, ud, ud], []⟩) (v := .bool false) rfl rfl (ex_assign _) ?_
  refine seq_nil ?_
  refine wp_seq (wp_region_p (F := ⟨#[nv 6 [a, b], pt w.heap.size, .bool true, nv 6 [a, b], nv 6 [a, b], nv 6 [a, b], .bool true], []⟩) (S := Bel w1) [(3, nv 6 [a, b]), (4, nv 6 [a, b]), (5, nv 6 [a, b]), (6, .bool true), (2, .bool true)] (by kernel_rfl) (by kernel_rfl) (by kernel_rfl) (by kernel_rfl) rfl (by simp only [putAll, List.setIfInBounds_toArray, List.set_cons_zero, List.set_cons_succ]) (Bel.start _) ?_ ?_)
  · refine PlanSteps.cons (ps_val (v := nv 6 [a, b]) rfl rfl rfl (fun W' h => ex_loadn (K := 6) (k := 0) (j := 2) (l := [a, b]) flFp2 rfl (N1.keep h.out) rfl _ rfl)) ?_
    refine PlanSteps.cons (ps_call (v := nv 6 [a, b]) rfl rfl rfl (fun W' => ex_call (vs := [nv 6 [a, b]]) rfl Try.call29 rfl) (fun W' h => r5Clean_e a b _ (Nat.lt_trans ha fpM_lt) (Nat.lt_trans hb fpM_lt) a b (pCl_of ha).symm (pCl_of hb).symm)) ?_
    refine PlanSteps.cons (ps_val (v := nv 6 [a, b]) rfl rfl rfl (fun W' h => ex_loadn (K := 6) (k := 0) (j := 2) (l := [a, b]) flFp2 rfl (N1.keep h.out) rfl _ rfl)) ?_
    refine PlanSteps.cons (ps_val (v := .bool true) rfl rfl rfl (fun W' h => ex_eqt (K := 6) (l := [a, b]) eqFp2 rfl rfl rfl rfl)) ?_
    refine PlanSteps.cons (ps_val (v := .bool true) rfl rfl rfl (fun W' h => ex_assign _)) ?_
    exact PlanSteps.nil
  intro w3 hb3
  refine then_n ?_
  have A4 := N1.keep hb3.out
  have HB5 := below_then HB2 hb3.out
  exact wp_ret (bodyPost_ret (ret_tmp Try.results47 rfl) rfl ⟨rfl, HB5⟩)

set_option maxRecDepth 20000 in
set_option maxHeartbeats 4000000 in
theorem duoRoots_ok (a b : Nat) (w : World) (ha : a < fpB) (hb : b < fpB) (y0 y1 : Nat) (hR : RootOf a b y0 y1 0) (HR : ∀ W : World, Calls Try.prog 44 #[nv 6 [a, b]] W (Is (.tuple #[nv 6 [y0, y1], .int .i64 0]) W)) :
    Calls Try.prog 8 #[nv 6 [a, b]] w (Is (.bool true) w) := by
  obtain ⟨c, hc⟩ : ∃ z, z = pCl a := ⟨_, rfl⟩
  obtain ⟨d, hd⟩ : ∃ z, z = pCl b := ⟨_, rfl⟩
  have bc : c < pN := by rw [hc]; exact pCl_P _
  have bd : d < pN := by rw [hd]; exact pCl_P _
  obtain ⟨r, hr⟩ : ∃ r, r = dHigh a b := ⟨_, rfl⟩
  have hrx : r = dHigh c d := by rw [hr, hc, hd]; unfold dHigh; rw [pCl_cl, high_cl, high_cl]
  have b0 := hR.b0
  have b1 := hR.b1
  obtain ⟨⟨q0, q1⟩, q2⟩ := hR.sq rfl
  have hlow : false = dHigh y0 y1 := q2.symm
  have hs0 : c = pSub (pMul y0 y0) (pMul y1 y1) := by rw [hc, q0]
  have hs1 : d = pAdd (pMul y0 y1) (pMul y1 y0) := by rw [hd, q1]
  go_enter Try.func8, Try.ntmps8
  refine seq_lit ?_
  refine sq_new (a' := ⟨#[nv 6 [a, b], pt w.heap.size, ud, ud, ud, ud, ud, ud, ud, ud, ud, ud, ud, ud, ud, ud, ud, ud, ud, ud, ud, ud, ud, ud, ud, ud, ud, ud, ud, ud, ud, ud, ud, ud, ud, ud, ud, ud, ud, ud, ud, ud, ud, ud, ud, ud, ud, ud, ud, ud], []⟩) (xs := rows 6 [a, b]) rfl rfl (ex_boxn (K := 6) (l := [a, b]) rfl) ?_
  intro w1 N1 hb1
  have HB2 := below_then (Below.refl w.heap.size w) hb1
  refine sq_val (a' := ⟨#[nv 6 [a, b], pt w.heap.size, .bool false, ud, ud, ud, ud, ud, ud, ud, ud, ud, ud, ud, ud, ud, ud, ud, ud, ud, ud, ud, ud, ud, ud, ud, ud, ud, ud, ud, ud, ud, ud, ud, ud, ud, ud, ud, ud, ud, ud, ud, ud, ud, ud, ud, ud, ud, ud, ud], []⟩) (v := .bool false) rfl rfl (ex_assign _) ?_
  refine seq_nil ?_
  refine seq_lit ?_
  refine sq_val (a' := ⟨#[nv 6 [a, b], pt w.heap.size, .bool false, ud, ud, ud, nv 6 [a, b], ud, ud, ud, ud, ud, ud, ud, ud, ud, ud, ud, ud, ud, ud, ud, ud, ud, ud, ud, ud, ud, ud, ud, ud, ud, ud, ud, ud, ud, ud, ud, ud, ud, ud, ud, ud, ud, ud, ud, ud, ud, ud, ud], []⟩) (v := nv 6 [a, b]) rfl rfl (ex_loadn (K := 6) (k := 0) (j := 2) (l := [a, b]) flFp2 rfl N1 rfl _ rfl) ?_
  refine sq_call (a' := ⟨#[nv 6 [a, b], pt w.heap.size, .bool false, ud, ud, ud, nv 6 [a, b], nv 6 [c, d], ud, ud, ud, ud, ud, ud, ud, ud, ud, ud, ud, ud, ud, ud, ud, ud, ud, ud, ud, ud, ud, ud, ud, ud, ud, ud, ud, ud, ud, ud, ud, ud, ud, ud, ud, ud, ud, ud, ud, ud, ud, ud], []⟩) (v := nv 6 [c, d]) rfl rfl (ex_call (vs := [nv 6 [a, b]]) rfl Try.call29 rfl) (r5Clean_e a b _ ha hb c d hc hd) ?_
  intro w3 hb3
  have A4 := N1.keep hb3
  have HB5 := below_then HB2 hb3
  refine sq_new (a' := ⟨#[nv 6 [a, b], pt w.heap.size, .bool false, pt w3.heap.size, ud, ud, nv 6 [a, b], nv 6 [c, d], ud, ud, ud, ud, ud, ud, ud, ud, ud, ud, ud, ud, ud, ud, ud, ud, ud, ud, ud, ud, ud, ud, ud, ud, ud, ud, ud, ud, ud, ud, ud, ud, ud, ud, ud, ud, ud, ud, ud, ud, ud, ud], []⟩) (xs := rows 6 [0, 0]) rfl rfl (ex_alloc zFp2) ?_
  intro w6 N6 hb6
  have A7 := A4.keep hb6
  have HB8 := below_then HB5 hb6
  refine sq_store (a' := ⟨#[nv 6 [a, b], pt w.heap.size, .bool false, pt w3.heap.size, ud, ud, nv 6 [a, b], nv 6 [c, d], ud, ud, ud, ud, ud, ud, ud, ud, ud, ud, ud, ud, ud, ud, ud, ud, ud, ud, ud, ud, ud, ud, ud, ud, ud, ud, ud, ud, ud, ud, ud, ud, ud, ud, ud, ud, ud, ud, ud, ud, ud, ud], []⟩) (t := 37) (xs := rows 6 [0, 0]) (ys := rows 6 [c, d]) rfl rfl N6 (len_rows rfl) (ex_storen (K := 6) (l := [0, 0]) (m := [c, d]) flFp2 rfl rfl N6 rfl) ?_
  intro w10 N10 hst10 hoth10
  have A11 := hoth10 _ _ _ (Nat.ne_of_lt A4.lt) A7
  have HB12 := hst10 _ _ HB8 HB5.size
  refine seq_nil ?_
  refine seq_lit ?_
  refine sq_val (a' := ⟨#[nv 6 [a, b], pt w.heap.size, .bool false, pt w3.heap.size, ud, ud, nv 6 [a, b], nv 6 [c, d], ud, nv 6 [a, b], ud, ud, ud, ud, ud, ud, ud, ud, ud, ud, ud, ud, ud, ud, ud, ud, ud, ud, ud, ud, ud, ud, ud, ud, ud, ud, ud, ud, ud, ud, ud, ud, ud, ud, ud, ud, ud, ud, ud, ud], []⟩) (v := nv 6 [a, b]) rfl rfl (ex_loadn (K := 6) (k := 0) (j := 2) (l := [a, b]) flFp2 rfl A11 rfl _ rfl) ?_
  refine sq_call (a' := ⟨#[nv 6 [a, b], pt w.heap.size, .bool false, pt w3.heap.size, ud, ud, nv 6 [a, b], nv 6 [c, d], ud, nv 6 [a, b], .tuple #[nv 6 [y0, y1], .int .i64 0], ud, ud, ud, ud, ud, ud, ud, ud, ud, ud, ud, ud, ud, ud, ud, ud, ud, ud, ud, ud, ud, ud, ud, ud, ud, ud, ud, ud, ud, ud, ud, ud, ud, ud, ud, ud, ud, ud, ud], []⟩) (v := .tuple #[nv 6 [y0, y1], .int .i64 0]) rfl rfl (ex_call (vs := [nv 6 [a, b]]) rfl Try.call44 rfl) (HR _) ?_
  intro w13 hb13
  have A14 := A11.keep hb13
  have A15 := N10.keep hb13
  have HB16 := below_then HB12 hb13
  refine sq_val (a' := ⟨#[nv 6 [a, b], pt w.heap.size, .bool false, pt w3.heap.size, ud, ud, nv 6 [a, b], nv 6 [c, d], .tuple #[nv 6 [y0, y1], .int .i64 0], nv 6 [a, b], .tuple #[nv 6 [y0, y1], .int .i64 0], ud, ud, ud, ud, ud, ud, ud, ud, ud, ud, ud, ud, ud, ud, ud, ud, ud, ud, ud, ud, ud, ud, ud, ud, ud, ud, ud, ud, ud, ud, ud, ud, ud, ud, ud, ud, ud, ud, ud], []⟩) (v := .tuple #[nv 6 [y0, y1], .int .i64 0]) rfl rfl (ex_move _) ?_
  refine sq_val (a' := ⟨#[nv 6 [a, b], pt w.heap.size, .bool false, pt w3.heap.size, ud, ud, nv 6 [a, b], nv 6 [c, d], .tuple #[nv 6 [y0, y1], .int .i64 0], nv 6 [a, b], .tuple #[nv 6 [y0, y1], .int .i64 0], nv 6 [y0, y1], ud, ud, ud, ud, ud, ud, ud, ud, ud, ud, ud, ud, ud, ud, ud, ud, ud, ud, ud, ud, ud, ud, ud, ud, ud, ud, ud, ud, ud, ud, ud, ud, ud, ud, ud, ud, ud, ud], []⟩) (v := nv 6 [y0, y1]) rfl rfl (ex_extract (vs := [nv 6 [y0, y1], .int .i64 0]) rfl rfl) ?_
  refine sq_val (a' := ⟨#[nv 6 [a, b], pt w.heap.size, .bool false, pt w3.heap.size, ud, ud, nv 6 [a, b], nv 6 [c, d], .tuple #[nv 6 [y0, y1], .int .i64 0], nv 6 [a, b], .tuple #[nv 6 [y0, y1], .int .i64 0], nv 6 [y0, y1], .int .i64 0, ud, ud, ud, ud, ud, ud, ud, ud, ud, ud, ud, ud, ud, ud, ud, ud, ud, ud, ud, ud, ud, ud, ud, ud, ud, ud, ud, ud, ud, ud, ud, ud, ud, ud, ud, ud, ud], []⟩) (v := .int .i64 0) rfl rfl (ex_extract (vs := [nv 6 [y0, y1], .int .i64 0]) rfl rfl) ?_
  refine sq_new (a' := ⟨#[nv 6 [a, b], pt w.heap.size, .bool false, pt w3.heap.size, pt w13.heap.size, ud, nv 6 [a, b], nv 6 [c, d], .tuple #[nv 6 [y0, y1], .int .i64 0], nv 6 [a, b], .tuple #[nv 6 [y0, y1], .int .i64 0], nv 6 [y0, y1], .int .i64 0, ud, ud, ud, ud, ud, ud, ud, ud, ud, ud, ud, ud, ud, ud, ud, ud, ud, ud, ud, ud, ud, ud, ud, ud, ud, ud, ud, ud, ud, ud, ud, ud, ud, ud, ud, ud, ud], []⟩) (xs := rows 6 [0, 0]) rfl rfl (ex_alloc zFp2) ?_
  intro w17 N17 hb17
  have A18 := A14.keep hb17
  have A19 := A15.keep hb17
  have HB20 := below_then HB16 hb17
  refine sq_store (a' := ⟨#[nv 6 [a, b], pt w.heap.size, .bool false, pt w3.heap.size, pt w13.heap.size, ud, nv 6 [a, b], nv 6 [c, d], .tuple #[nv 6 [y0, y1], .int .i64 0], nv 6 [a, b], .tuple #[nv 6 [y0, y1], .int .i64 0], nv 6 [y0, y1], .int .i64 0, ud, ud, ud, ud, ud, ud, ud, ud, ud, ud, ud, ud, ud, ud, ud, ud, ud, ud, ud, ud, ud, ud, ud, ud, ud, ud, ud, ud, ud, ud, ud, ud, ud, ud, ud, ud, ud], []⟩) (t := 37) (xs := rows 6 [0, 0]) (ys := rows 6 [y0, y1]) rfl rfl N17 (len_rows rfl) (ex_storen (K := 6) (l := [0, 0]) (m := [y0, y1]) flFp2 rfl rfl N17 rfl) ?_
  intro w23 N23 hst23 hoth23
  have A24 := hoth23 _ _ _ (Nat.ne_of_lt A14.lt) A18
  have A25 := hoth23 _ _ _ (Nat.ne_of_lt A15.lt) A19
  have HB26 := hst23 _ _ HB20 HB16.size
  refine sq_val (a' := ⟨#[nv 6 [a, b], pt w.heap.size, .bool false, pt w3.heap.size, pt w13.heap.size, .int .i64 0, nv 6 [a, b], nv 6 [c, d], .tuple #[nv 6 [y0, y1], .int .i64 0], nv 6 [a, b], .tuple #[nv 6 [y0, y1], .int .i64 0], nv 6 [y0, y1], .int .i64 0, ud, ud, ud, ud, ud, ud, ud, ud, ud, ud, ud, ud, ud, ud, ud, ud, ud, ud, ud, ud, ud, ud, ud, ud, ud, ud, ud, ud, ud, ud, ud, ud, ud, ud, ud, ud, ud], []⟩) (v := .int .i64 0) rfl rfl (ex_assign _) ?_
  refine seq_nil ?_
  refine wp_seq ?_
  refine wp_seq (wp_region_p (F := ⟨#[nv 6 [a, b], pt w.heap.size, .bool false, pt w3.heap.size, pt w13.heap.size, .int .i64 0, nv 6 [a, b], nv 6 [c, d], .tuple #[nv 6 [y0, y1], .int .i64 0], nv 6 [a, b], .tuple #[nv 6 [y0, y1], .int .i64 0], nv 6 [y0, y1], .int .i64 0, nv 6 [a, b], .bool r, nv 6 [c, d], .bool r, .bool false, .bool false, .bool true, .bool false, .bool false, ud, ud, ud, ud, ud, ud, ud, ud, ud, ud, ud, ud, ud, ud, ud, ud, ud, ud, ud, ud, ud, ud, ud, ud, ud, ud, ud, ud], []⟩) (S := Bel w23) [(13, nv 6 [a, b]), (14, .bool r), (15, nv 6 [c, d]), (16, .bool r), (17, .bool false), (18, .bool false), (19, .bool true), (20, .bool false), (21, .bool false)] (by kernel_rfl) (by kernel_rfl) (by kernel_rfl) (by kernel_rfl) rfl (by simp only [putAll, List.setIfInBounds_toArray, List.set_cons_zero, List.set_cons_succ]) (Bel.start _) ?_ ?_)
  · refine PlanSteps.cons (ps_val (v := nv 6 [a, b]) rfl rfl rfl (fun W' h => ex_loadn (K := 6) (k := 0) (j := 2) (l := [a, b]) flFp2 rfl (A24.keep h.out) rfl _ rfl)) ?_
    refine PlanSteps.cons (ps_call (v := .bool r) rfl rfl rfl (fun W' => ex_call (vs := [nv 6 [a, b]]) rfl Try.call45 rfl) (fun W' h => duoHigh_v a b _ ha hb r hr)) ?_
    refine PlanSteps.cons (ps_val (v := nv 6 [c, d]) rfl rfl rfl (fun W' h => ex_loadn (K := 6) (k := 0) (j := 2) (l := [c, d]) flFp2 rfl (A25.keep h.out) rfl _ rfl)) ?_
    refine PlanSteps.cons (ps_call (v := .bool r) rfl rfl rfl (fun W' => ex_call (vs := [nv 6 [c, d]]) rfl Try.call46 rfl) (fun W' h => r5High_v c d _ bc bd r hrx)) ?_
    refine PlanSteps.cons (ps_val (v := .bool false) rfl rfl rfl (fun W' h => ex_neqb (a := r) (b := r) Try.underlying4 rfl rfl false (by simp))) ?_
    refine PlanSteps.cons (ps_val (v := .bool false) rfl rfl rfl (fun W' h => ex_move _)) ?_
    refine PlanSteps.cons (ps_call (v := .bool true) rfl rfl rfl (fun W' => ex_call (vs := []) rfl Try.call30 rfl) (fun W' h => duoalive_v _)) ?_
    refine PlanSteps.cons (ps_val (v := .bool false) rfl rfl rfl (fun W' h => ex_not (r := true) rfl)) ?_
    refine PlanSteps.cons (ps_val (v := .bool false) rfl rfl rfl (fun W' h => ex_pick (r := false) rfl)) ?_
    exact PlanSteps.nil
  intro w27 hb27
  refine then_n ?_
  have A28 := A24.keep hb27.out
  have A29 := A25.keep hb27.out
  have A30 := N23.keep hb27.out
  have HB31 := below_then HB26 hb27.out
  refine wp_cond_false rfl ?_
  refine wp_skip (then_n ?_)
  refine wp_seq ?_
  refine seq_lit ?_
  refine sq_val (a' := ⟨#[nv 6 [a, b], pt w.heap.size, .bool false, pt w3.heap.size, pt w13.heap.size, .int .i64 0, nv 6 [a, b], nv 6 [c, d], .tuple #[nv 6 [y0, y1], .int .i64 0], nv 6 [a, b], .tuple #[nv 6 [y0, y1], .int .i64 0], nv 6 [y0, y1], .int .i64 0, nv 6 [a, b], .bool r, nv 6 [c, d], .bool r, .bool false, .bool false, .bool true, .bool false, .bool false, .int .i64 0, ud, ud, ud, ud, ud, ud, ud, ud, ud, ud, ud, ud, ud, ud, ud, ud, ud, ud, ud, ud, ud, ud, ud, ud, ud, ud, ud], []⟩) (v := .int .i64 0) rfl rfl (ex_move _) ?_
  refine sq_val (a' := ⟨#[nv 6 [a, b], pt w.heap.size, .bool false, pt w3.heap.size, pt w13.heap.size, .int .i64 0, nv 6 [a, b], nv 6 [c, d], .tuple #[nv 6 [y0, y1], .int .i64 0], nv 6 [a, b], .tuple #[nv 6 [y0, y1], .int .i64 0], nv 6 [y0, y1], .int .i64 0, nv 6 [a, b], .bool r, nv 6 [c, d], .bool r, .bool false, .bool false, .bool true, .bool false, .bool false, .int .i64 0, .bool true, ud, ud, ud, ud, ud, ud, ud, ud, ud, ud, ud, ud, ud, ud, ud, ud, ud, ud, ud, ud, ud, ud, ud, ud, ud, ud], []⟩) (v := .bool true) rfl rfl (ex_eqi rfl rfl _ rfl) ?_
  refine seq_nil ?_
  refine wp_cond_true rfl ?_
  refine wp_seq (wp_region_p (F := ⟨#[nv 6 [a, b], pt w.heap.size, .bool true, pt w3.heap.size, pt w13.heap.size, .int .i64 0, nv 6 [a, b], nv 6 [c, d], .tuple #[nv 6 [y0, y1], .int .i64 0], nv 6 [a, b], .tuple #[nv 6 [y0, y1], .int .i64 0], nv 6 [y0, y1], .int .i64 0, nv 6 [a, b], .bool r, nv 6 [c, d], .bool r, .bool false, .bool false, .bool true, .bool false, .bool false, .int .i64 0, .bool true, nv 6 [y0, y1], .bool true, .bool true, nv 6 [y0, y1], nv 6 [y0, y1], nv 6 [c, d], nv 6 [c, d], .bool true, .bool true, .bool true, nv 6 [y0, y1], .bool false, .bool true, .bool true, ud, ud, ud, ud, ud, ud, ud, ud, ud, ud, ud, ud], []⟩) (S := Bel w27) [(24, nv 6 [y0, y1]), (25, .bool true), (26, .bool true), (27, nv 6 [y0, y1]), (28, nv 6 [y0, y1]), (29, nv 6 [c, d]), (30, nv 6 [c, d]), (31, .bool true), (32, .bool true), (33, .bool true), (34, nv 6 [y0, y1]), (35, .bool false), (36, .bool true), (37, .bool true), (2, .bool true)] (by kernel_rfl) (by kernel_rfl) (by kernel_rfl) (by kernel_rfl) rfl (by simp only [putAll, List.setIfInBounds_toArray, List.set_cons_zero, List.set_cons_succ]) (Bel.start _) ?_ ?_)
  · refine PlanSteps.cons (ps_val (v := nv 6 [y0, y1]) rfl rfl rfl (fun W' h => ex_loadn (K := 6) (k := 0) (j := 2) (l := [y0, y1]) flFp2 rfl (A30.keep h.out) rfl _ rfl)) ?_
    refine PlanSteps.cons (ps_call (v := .bool true) rfl rfl rfl (fun W' => ex_call (vs := [nv 6 [y0, y1]]) rfl Try.call47 rfl) (fun W' h => r5Right_w y0 y1 _ b0 b1)) ?_
    refine PlanSteps.cons (ps_val (v := .bool true) rfl rfl rfl (fun W' h => ex_move _)) ?_
    refine PlanSteps.cons (ps_val (v := nv 6 [y0, y1]) rfl rfl rfl (fun W' h => ex_loadn (K := 6) (k := 0) (j := 2) (l := [y0, y1]) flFp2 rfl (A30.keep h.out) rfl _ rfl)) ?_
    refine PlanSteps.cons (ps_val (v := nv 6 [y0, y1]) rfl rfl rfl (fun W' h => ex_loadn (K := 6) (k := 0) (j := 2) (l := [y0, y1]) flFp2 rfl (A30.keep h.out) rfl _ rfl)) ?_
    refine PlanSteps.cons (ps_call (v := nv 6 [c, d]) rfl rfl rfl (fun W' => ex_call (vs := [nv 6 [y0, y1], nv 6 [y0, y1]]) rfl Try.call41 rfl) (fun W' h => r5Mul_e y0 y1 y0 y1 _ b0 b1 b0 b1 c d hs0 hs1)) ?_
    refine PlanSteps.cons (ps_val (v := nv 6 [c, d]) rfl rfl rfl (fun W' h => ex_loadn (K := 6) (k := 0) (j := 2) (l := [c, d]) flFp2 rfl (A29.keep h.out) rfl _ rfl)) ?_
    refine PlanSteps.cons (ps_val (v := .bool true) rfl rfl rfl (fun W' h => ex_eqt (K := 6) (l := [c, d]) eqFp2 rfl rfl rfl rfl)) ?_
    refine PlanSteps.cons (ps_val (v := .bool true) rfl rfl rfl (fun W' h => ex_pick (r := true) rfl)) ?_
    refine PlanSteps.cons (ps_val (v := .bool true) rfl rfl rfl (fun W' h => ex_move _)) ?_
    refine PlanSteps.cons (ps_val (v := nv 6 [y0, y1]) rfl rfl rfl (fun W' h => ex_loadn (K := 6) (k := 0) (j := 2) (l := [y0, y1]) flFp2 rfl (A30.keep h.out) rfl _ rfl)) ?_
    refine PlanSteps.cons (ps_call (v := .bool false) rfl rfl rfl (fun W' => ex_call (vs := [nv 6 [y0, y1]]) rfl Try.call46 rfl) (fun W' h => r5High_v y0 y1 _ b0 b1 false hlow)) ?_
    refine PlanSteps.cons (ps_val (v := .bool true) rfl rfl rfl (fun W' h => ex_not (r := false) rfl)) ?_
    refine PlanSteps.cons (ps_val (v := .bool true) rfl rfl rfl (fun W' h => ex_pick (r := true) rfl)) ?_
    refine PlanSteps.cons (ps_val (v := .bool true) rfl rfl rfl (fun W' h => ex_assign _)) ?_
    exact PlanSteps.nil
  intro w32 hb32
  refine then_n ?_
  have A33 := A28.keep hb32.out
  have A34 := A29.keep hb32.out
  have A35 := A30.keep hb32.out
  have HB36 := below_then HB31 hb32.out
  exact wp_ret (bodyPost_ret (ret_tmp Try.results8 rfl) rfl ⟨rfl, HB36⟩)

set_option maxRecDepth 20000 in
set_option maxHeartbeats 4000000 in
theorem duoRoots_no (a b : Nat) (w : World) (ha : a < fpB) (hb : b < fpB) (hq : pRootE (pAdd (pMul (pCl a) (pCl a)) (pMul (pCl b) (pCl b))) = 21) (HR : ∀ W : World, Calls Try.prog 44 #[nv 6 [a, b]] W (Is (.tuple #[nv 6 [0, 0], .int .i64 21]) W)) :
    Calls Try.prog 8 #[nv 6 [a, b]] w (Is (.bool true) w) := by
  obtain ⟨c, hc⟩ : ∃ z, z = pCl a := ⟨_, rfl⟩
  obtain ⟨d, hd⟩ : ∃ z, z = pCl b := ⟨_, rfl⟩
  have bc : c < pN := by rw [hc]; exact pCl_P _
  have bd : d < pN := by rw [hd]; exact pCl_P _
  obtain ⟨r, hr⟩ : ∃ r, r = dHigh a b := ⟨_, rfl⟩
  have hrx : r = dHigh c d := by rw [hr, hc, hd]; unfold dHigh; rw [pCl_cl, high_cl, high_cl]
  have hsq : pRootE (pAdd (pMul c c) (pMul d d)) = 21 := by rw [hc, hd]; exact hq
  go_enter Try.func8, Try.ntmps8
  refine seq_lit ?_
  refine sq_new (a' := ⟨#[nv 6 [a, b], pt w.heap.size, ud, ud, ud, ud, ud, ud, ud, ud, ud, ud, ud, ud, ud, ud, ud, ud, ud, ud, ud, ud, ud, ud, ud, ud, ud, ud, ud, ud, ud, ud, ud, ud, ud, ud, ud, ud, ud, ud, ud, ud, ud, ud, ud, ud, ud, ud, ud, ud], []⟩) (xs := rows 6 [a, b]) rfl rfl (ex_boxn (K := 6) (l := [a, b]) rfl) ?_
  intro w1 N1 hb1
  have HB2 := below_then (Below.refl w.heap.size w) hb1
  refine sq_val (a' := ⟨#[nv 6 [a, b], pt w.heap.size, .bool false, ud, ud, ud, ud, ud, ud, ud, ud, ud, ud, ud, ud, ud, ud, ud, ud, ud, ud, ud, ud, ud, ud, ud, ud, ud, ud, ud, ud, ud, ud, ud, ud, ud, ud, ud, ud, ud, ud, ud, ud, ud, ud, ud, ud, ud, ud, ud], []⟩) (v := .bool false) rfl rfl (ex_assign _) ?_
  refine seq_nil ?_
  refine seq_lit ?_
  refine sq_val (a' := ⟨#[nv 6 [a, b], pt w.heap.size, .bool false, ud, ud, ud, nv 6 [a, b], ud, ud, ud, ud, ud, ud, ud, ud, ud, ud, ud, ud, ud, ud, ud, ud, ud, ud, ud, ud, ud, ud, ud, ud, ud, ud, ud, ud, ud, ud, ud, ud, ud, ud, ud, ud, ud, ud, ud, ud, ud, ud, ud], []⟩) (v := nv 6 [a, b]) rfl rfl (ex_loadn (K := 6) (k := 0) (j := 2) (l := [a, b]) flFp2 rfl N1 rfl _ rfl) ?_
  refine sq_call (a' := ⟨#[nv 6 [a, b], pt w.heap.size, .bool false, ud, ud, ud, nv 6 [a, b], nv 6 [c, d], ud, ud, ud, ud, ud, ud, ud, ud, ud, ud, ud, ud, ud, ud, ud, ud, ud, ud, ud, ud, ud, ud, ud, ud, ud, ud, ud, ud, ud, ud, ud, ud, ud, ud, ud, ud, ud, ud, ud, ud, ud, ud], []⟩) (v := nv 6 [c, d]) rfl rfl (ex_call (vs := [nv 6 [a, b]]) rfl Try.call29 rfl) (r5Clean_e a b _ ha hb c d hc hd) ?_
  intro w3 hb3
  have A4 := N1.keep hb3
  have HB5 := below_then HB2 hb3
  refine sq_new (a' := ⟨#[nv 6 [a, b], pt w.heap.size, .bool false, pt w3.heap.size, ud, ud, nv 6 [a, b], nv 6 [c, d], ud, ud, ud, ud, ud, ud, ud, ud, ud, ud, ud, ud, ud, ud, ud, ud, ud, ud, ud, ud, ud, ud, ud, ud, ud, ud, ud, ud, ud, ud, ud, ud, ud, ud, ud, ud, ud, ud, ud, ud, ud, ud], []⟩) (xs := rows 6 [0, 0]) rfl rfl (ex_alloc zFp2) ?_
  intro w6 N6 hb6
  have A7 := A4.keep hb6
  have HB8 := below_then HB5 hb6
  refine sq_store (a' := ⟨#[nv 6 [a, b], pt w.heap.size, .bool false, pt w3.heap.size, ud, ud, nv 6 [a, b], nv 6 [c, d], ud, ud, ud, ud, ud, ud, ud, ud, ud, ud, ud, ud, ud, ud, ud, ud, ud, ud, ud, ud, ud, ud, ud, ud, ud, ud, ud, ud, ud, ud, ud, ud, ud, ud, ud, ud, ud, ud, ud, ud, ud, ud], []⟩) (t := 37) (xs := rows 6 [0, 0]) (ys := rows 6 [c, d]) rfl rfl N6 (len_rows rfl) (ex_storen (K := 6) (l := [0, 0]) (m := [c, d]) flFp2 rfl rfl N6 rfl) ?_
  intro w10 N10 hst10 hoth10
  have A11 := hoth10 _ _ _ (Nat.ne_of_lt A4.lt) A7
  have HB12 := hst10 _ _ HB8 HB5.size
  refine seq_nil ?_
  refine seq_lit ?_
  refine sq_val (a' := ⟨#[nv 6 [a, b], pt w.heap.size, .bool false, pt w3.heap.size, ud, ud, nv 6 [a, b], nv 6 [c, d], ud, nv 6 [a, b], ud, ud, ud, ud, ud, ud, ud, ud, ud, ud, ud, ud, ud, ud, ud, ud, ud, ud, ud, ud, ud, ud, ud, ud, ud, ud, ud, ud, ud, ud, ud, ud, ud, ud, ud, ud, ud, ud, ud, ud], []⟩) (v := nv 6 [a, b]) rfl rfl (ex_loadn (K := 6) (k := 0) (j := 2) (l := [a, b]) flFp2 rfl A11 rfl _ rfl) ?_
  refine sq_call (a' := ⟨#[nv 6 [a, b], pt w.heap.size, .bool false, pt w3.heap.size, ud, ud, nv 6 [a, b], nv 6 [c, d], ud, nv 6 [a, b], .tuple #[nv 6 [0, 0], .int .i64 21], ud, ud, ud, ud, ud, ud, ud, ud, ud, ud, ud, ud, ud, ud, ud, ud, ud, ud, ud, ud, ud, ud, ud, ud, ud, ud, ud, ud, ud, ud, ud, ud, ud, ud, ud, ud, ud, ud, ud], []⟩) (v := .tuple #[nv 6 [0, 0], .int .i64 21]) rfl rfl (ex_call (vs := [nv 6 [a, b]]) rfl Try.call44 rfl) (HR _) ?_
  intro w13 hb13
  have A14 := A11.keep hb13
  have A15 := N10.keep hb13
  have HB16 := below_then HB12 hb13
  refine sq_val (a' := ⟨#[nv 6 [a, b], pt w.heap.size, .bool false, pt w3.heap.size, ud, ud, nv 6 [a, b], nv 6 [c, d], .tuple #[nv 6 [0, 0], .int .i64 21], nv 6 [a, b], .tuple #[nv 6 [0, 0], .int .i64 21], ud, ud, ud, ud, ud, ud, ud, ud, ud, ud, ud, ud, ud, ud, ud, ud, ud, ud, ud, ud, ud, ud, ud, ud, ud, ud, ud, ud, ud, ud, ud, ud, ud, ud, ud, ud, ud, ud, ud], []⟩) (v := .tuple #[nv 6 [0, 0], .int .i64 21]) rfl rfl (ex_move _) ?_
  refine sq_val (a' := ⟨#[nv 6 [a, b], pt w.heap.size, .bool false, pt w3.heap.size, ud, ud, nv 6 [a, b], nv 6 [c, d], .tuple #[nv 6 [0, 0], .int .i64 21], nv 6 [a, b], .tuple #[nv 6 [0, 0], .int .i64 21], nv 6 [0, 0], ud, ud, ud, ud, ud, ud, ud, ud, ud, ud, ud, ud, ud, ud, ud, ud, ud, ud, ud, ud, ud, ud, ud, ud, ud, ud, ud, ud, ud, ud, ud, ud, ud, ud, ud, ud, ud, ud], []⟩) (v := nv 6 [0, 0]) rfl rfl (ex_extract (vs := [nv 6 [0, 0], .int .i64 21]) rfl rfl) ?_
  refine sq_val (a' := ⟨#[nv 6 [a, b], pt w.heap.size, .bool false, pt w3.heap.size, ud, ud, nv 6 [a, b], nv 6 [c, d], .tuple #[nv 6 [0, 0], .int .i64 21], nv 6 [a, b], .tuple #[nv 6 [0, 0], .int .i64 21], nv 6 [0, 0], .int .i64 21, ud, ud, ud, ud, ud, ud, ud, ud, ud, ud, ud, ud, ud, ud, ud, ud, ud, ud, ud, ud, ud, ud, ud, ud, ud, ud, ud, ud, ud, ud, ud, ud, ud, ud, ud, ud, ud], []⟩) (v := .int .i64 21) rfl rfl (ex_extract (vs := [nv 6 [0, 0], .int .i64 21]) rfl rfl) ?_
  refine sq_new (a' := ⟨#[nv 6 [a, b], pt w.heap.size, .bool false, pt w3.heap.size, pt w13.heap.size, ud, nv 6 [a, b], nv 6 [c, d], .tuple #[nv 6 [0, 0], .int .i64 21], nv 6 [a, b], .tuple #[nv 6 [0, 0], .int .i64 21], nv 6 [0, 0], .int .i64 21, ud, ud, ud, ud, ud, ud, ud, ud, ud, ud, ud, ud, ud, ud, ud, ud, ud, ud, ud, ud, ud, ud, ud, ud, ud, ud, ud, ud, ud, ud, ud, ud, ud, ud, ud, ud, ud], []⟩) (xs := rows 6 [0, 0]) rfl rfl (ex_alloc zFp2) ?_
  intro w17 N17 hb17
  have A18 := A14.keep hb17
  have A19 := A15.keep hb17
  have HB20 := below_then HB16 hb17
  refine sq_store (a' := ⟨#[nv 6 [a, b], pt w.heap.size, .bool false, pt w3.heap.size, pt w13.heap.size, ud, nv 6 [a, b], nv 6 [c, d], .tuple #[nv 6 [0, 0], .int .i64 21], nv 6 [a, b], .tuple #[nv 6 [0, 0], .int .i64 21], nv 6 [0, 0], .int .i64 21, ud, ud, ud, ud, ud, ud, ud, ud, ud, ud, ud, ud, ud, ud, ud, ud, ud, ud, ud, ud, ud, ud, ud, ud, ud, ud, ud, ud, ud, ud, ud, ud, ud, ud, ud, ud, ud], []⟩) (t := 37) (xs := rows 6 [0, 0]) (ys := rows 6 [0, 0]) rfl rfl N17 (len_rows rfl) (ex_storen (K := 6) (l := [0, 0]) (m := [0, 0]) flFp2 rfl rfl N17 rfl) ?_
  intro w23 N23 hst23 hoth23
  have A24 := hoth23 _ _ _ (Nat.ne_of_lt A14.lt) A18
  have A25 := hoth23 _ _ _ (Nat.ne_of_lt A15.lt) A19
  have HB26 := hst23 _ _ HB20 HB16.size
  refine sq_val (a' := ⟨#[nv 6 [a, b], pt w.heap.size, .bool false, pt w3.heap.size, pt w13.heap.size, .int .i64 21, nv 6 [a, b], nv 6 [c, d], .tuple #[nv 6 [0, 0], .int .i64 21], nv 6 [a, b], .tuple #[nv 6 [0, 0], .int .i64 21], nv 6 [0, 0], .int .i64 21, ud, ud, ud, ud, ud, ud, ud, ud, ud, ud, ud, ud, ud, ud, ud, ud, ud, ud, ud, ud, ud, ud, ud, ud, ud, ud, ud, ud, ud, ud, ud, ud, ud, ud, ud, ud, ud], []⟩) (v := .int .i64 21) rfl rfl (ex_assign _) ?_
  refine seq_nil ?_
  refine wp_seq ?_
  refine wp_seq (wp_region_p (F := ⟨#[nv 6 [a, b], pt w.heap.size, .bool false, pt w3.heap.size, pt w13.heap.size, .int .i64 21, nv 6 [a, b], nv 6 [c, d], .tuple #[nv 6 [0, 0], .int .i64 21], nv 6 [a, b], .tuple #[nv 6 [0, 0], .int .i64 21], nv 6 [0, 0], .int .i64 21, nv 6 [a, b], .bool r, nv 6 [c, d], .bool r, .bool false, .bool false, .bool true, .bool false, .bool false, ud, ud, ud, ud, ud, ud, ud, ud, ud, ud, ud, ud, ud, ud, ud, ud, ud, ud, ud, ud, ud, ud, ud, ud, ud, ud, ud, ud], []⟩) (S := Bel w23) [(13, nv 6 [a, b]), (14, .bool r), (15, nv 6 [c, d]), (16, .bool r), (17, .bool false), (18, .bool false), (19, .bool true), (20, .bool false), (21, .bool false)] (by kernel_rfl) (by kernel_rfl) (by kernel_rfl) (by kernel_rfl) rfl (by simp only [putAll, List.setIfInBounds_toArray, List.set_cons_zero, List.set_cons_succ]) (Bel.start _) ?_ ?_)
  · refine PlanSteps.cons (ps_val (v := nv 6 [a, b]) rfl rfl rfl (fun W' h => ex_loadn (K := 6) (k := 0) (j := 2) (l := [a, b]) flFp2 rfl (A24.keep h.out) rfl _ rfl)) ?_
    refine PlanSteps.cons (ps_call (v := .bool r) rfl rfl rfl (fun W' => ex_call (vs := [nv 6 [a, b]]) rfl Try.call45 rfl) (fun W' h => duoHigh_v a b _ ha hb r hr)) ?_
    refine PlanSteps.cons (ps_val (v := nv 6 [c, d]) rfl rfl rfl (fun W' h => ex_loadn (K := 6) (k := 0) (j := 2) (l := [c, d]) flFp2 rfl (A25.keep h.out) rfl _ rfl)) ?_
    refine PlanSteps.cons (ps_call (v := .bool r) rfl rfl rfl (fun W' => ex_call (vs := [nv 6 [c, d]]) rfl Try.call46 rfl) (fun W' h => r5High_v c d _ bc bd r hrx)) ?_
    refine PlanSteps.cons (ps_val (v := .bool false) rfl rfl rfl (fun W' h => ex_neqb (a := r) (b := r) Try.underlying4 rfl rfl false (by simp))) ?_
    refine PlanSteps.cons (ps_val (v := .bool false) rfl rfl rfl (fun W' h => ex_move _)) ?_
    refine PlanSteps.cons (ps_call (v := .bool true) rfl rfl rfl (fun W' => ex_call (vs := []) rfl Try.call30 rfl) (fun W' h => duoalive_v _)) ?_
    refine PlanSteps.cons (ps_val (v := .bool false) rfl rfl rfl (fun W' h => ex_not (r := true) rfl)) ?_
    refine PlanSteps.cons (ps_val (v := .bool false) rfl rfl rfl (fun W' h => ex_pick (r := false) rfl)) ?_
    exact PlanSteps.nil
  intro w27 hb27
  refine then_n ?_
  have A28 := A24.keep hb27.out
  have A29 := A25.keep hb27.out
  have A30 := N23.keep hb27.out
  have HB31 := below_then HB26 hb27.out
  refine wp_cond_false rfl ?_
  refine wp_skip (then_n ?_)
  refine wp_seq ?_
  refine seq_lit ?_
  refine sq_val (a' := ⟨#[nv 6 [a, b], pt w.heap.size, .bool false, pt w3.heap.size, pt w13.heap.size, .int .i64 21, nv 6 [a, b], nv 6 [c, d], .tuple #[nv 6 [0, 0], .int .i64 21], nv 6 [a, b], .tuple #[nv 6 [0, 0], .int .i64 21], nv 6 [0, 0], .int .i64 21, nv 6 [a, b], .bool r, nv 6 [c, d], .bool r, .bool false, .bool false, .bool true, .bool false, .bool false, .int .i64 21, ud, ud, ud, ud, ud, ud, ud, ud, ud, ud, ud, ud, ud, ud, ud, ud, ud, ud, ud, ud, ud, ud, ud, ud, ud, ud, ud], []⟩) (v := .int .i64 21) rfl rfl (ex_move _) ?_
  refine sq_val (a' := ⟨#[nv 6 [a, b], pt w.heap.size, .bool false, pt w3.heap.size, pt w13.heap.size, .int .i64 21, nv 6 [a, b], nv 6 [c, d], .tuple #[nv 6 [0, 0], .int .i64 21], nv 6 [a, b], .tuple #[nv 6 [0, 0], .int .i64 21], nv 6 [0, 0], .int .i64 21, nv 6 [a, b], .bool r, nv 6 [c, d], .bool r, .bool false, .bool false, .bool true, .bool false, .bool false, .int .i64 21, .bool false, ud, ud, ud, ud, ud, ud, ud, ud, ud, ud, ud, ud, ud, ud, ud, ud, ud, ud, ud, ud, ud, ud, ud, ud, ud, ud], []⟩) (v := .bool false) rfl rfl (ex_eqi rfl rfl _ rfl) ?_
  refine seq_nil ?_
  refine wp_cond_false rfl ?_
  refine wp_skip (then_n ?_)
  refine seq_lit ?_
  refine sq_val (a' := ⟨#[nv 6 [a, b], pt w.heap.size, .bool false, pt w3.heap.size, pt w13.heap.size, .int .i64 21, nv 6 [a, b], nv 6 [c, d], .tuple #[nv 6 [0, 0], .int .i64 21], nv 6 [a, b], .tuple #[nv 6 [0, 0], .int .i64 21], nv 6 [0, 0], .int .i64 21, nv 6 [a, b], .bool r, nv 6 [c, d], .bool r, .bool false, .bool false, .bool true, .bool false, .bool false, .int .i64 21, .bool false, ud, ud, ud, ud, ud, ud, ud, ud, ud, ud, ud, ud, ud, ud, .int .i64 21, ud, ud, ud, ud, ud, ud, ud, ud, ud, ud, ud], []⟩) (v := .int .i64 21) rfl rfl (ex_move _) ?_
  refine sq_val (a' := ⟨#[nv 6 [a, b], pt w.heap.size, .bool false, pt w3.heap.size, pt w13.heap.size, .int .i64 21, nv 6 [a, b], nv 6 [c, d], .tuple #[nv 6 [0, 0], .int .i64 21], nv 6 [a, b], .tuple #[nv 6 [0, 0], .int .i64 21], nv 6 [0, 0], .int .i64 21, nv 6 [a, b], .bool r, nv 6 [c, d], .bool r, .bool false, .bool false, .bool true, .bool false, .bool false, .int .i64 21, .bool false, ud, ud, ud, ud, ud, ud, ud, ud, ud, ud, ud, ud, ud, ud, .int .i64 21, .bool true, ud, ud, ud, ud, ud, ud, ud, ud, ud, ud], []⟩) (v := .bool true) rfl rfl (ex_eqi rfl rfl _ rfl) ?_
  refine sq_val (a' := ⟨#[nv 6 [a, b], pt w.heap.size, .bool false, pt w3.heap.size, pt w13.heap.size, .int .i64 21, nv 6 [a, b], nv 6 [c, d], .tuple #[nv 6 [0, 0], .int .i64 21], nv 6 [a, b], .tuple #[nv 6 [0, 0], .int .i64 21], nv 6 [0, 0], .int .i64 21, nv 6 [a, b], .bool r, nv 6 [c, d], .bool r, .bool false, .bool false, .bool true, .bool false, .bool false, .int .i64 21, .bool false, ud, ud, ud, ud, ud, ud, ud, ud, ud, ud, ud, ud, ud, ud, .int .i64 21, .bool true, .bool true, ud, ud, ud, ud, ud, ud, ud, ud, ud], []⟩) (v := .bool true) rfl rfl (ex_move _) ?_
  refine sq_val (a' := ⟨#[nv 6 [a, b], pt w.heap.size, .bool false, pt w3.heap.size, pt w13.heap.size, .int .i64 21, nv 6 [a, b], nv 6 [c, d], .tuple #[nv 6 [0, 0], .int .i64 21], nv 6 [a, b], .tuple #[nv 6 [0, 0], .int .i64 21], nv 6 [0, 0], .int .i64 21, nv 6 [a, b], .bool r, nv 6 [c, d], .bool r, .bool false, .bool false, .bool true, .bool false, .bool false, .int .i64 21, .bool false, ud, ud, ud, ud, ud, ud, ud, ud, ud, ud, ud, ud, ud, ud, .int .i64 21, .bool true, .bool true, nv 6 [0, 0], ud, ud, ud, ud, ud, ud, ud, ud], []⟩) (v := nv 6 [0, 0]) rfl rfl (ex_loadn (K := 6) (k := 0) (j := 2) (l := [0, 0]) flFp2 rfl A30 rfl _ rfl) ?_
  refine sq_val (a' := ⟨#[nv 6 [a, b], pt w.heap.size, .bool false, pt w3.heap.size, pt w13.heap.size, .int .i64 21, nv 6 [a, b], nv 6 [c, d], .tuple #[nv 6 [0, 0], .int .i64 21], nv 6 [a, b], .tuple #[nv 6 [0, 0], .int .i64 21], nv 6 [0, 0], .int .i64 21, nv 6 [a, b], .bool r, nv 6 [c, d], .bool r, .bool false, .bool false, .bool true, .bool false, .bool false, .int .i64 21, .bool false, ud, ud, ud, ud, ud, ud, ud, ud, ud, ud, ud, ud, ud, ud, .int .i64 21, .bool true, .bool true, nv 6 [0, 0], nv 6 [0, 0], ud, ud, ud, ud, ud, ud, ud], []⟩) (v := nv 6 [0, 0]) rfl rfl (ex_build stFp2 (vs := []) rfl (bd0)) ?_
  refine sq_val (a' := ⟨#[nv 6 [a, b], pt w.heap.size, .bool false, pt w3.heap.size, pt w13.heap.size, .int .i64 21, nv 6 [a, b], nv 6 [c, d], .tuple #[nv 6 [0, 0], .int .i64 21], nv 6 [a, b], .tuple #[nv 6 [0, 0], .int .i64 21], nv 6 [0, 0], .int .i64 21, nv 6 [a, b], .bool r, nv 6 [c, d], .bool r, .bool false, .bool false, .bool true, .bool false, .bool false, .int .i64 21, .bool false, ud, ud, ud, ud, ud, ud, ud, ud, ud, ud, ud, ud, ud, ud, .int .i64 21, .bool true, .bool true, nv 6 [0, 0], nv 6 [0, 0], .bool true, ud, ud, ud, ud, ud, ud], []⟩) (v := .bool true) rfl rfl (ex_eqt (K := 6) (l := [0, 0]) eqFp2 rfl rfl rfl rfl) ?_
  refine sq_val (a' := ⟨#[nv 6 [a, b], pt w.heap.size, .bool false, pt w3.heap.size, pt w13.heap.size, .int .i64 21, nv 6 [a, b], nv 6 [c, d], .tuple #[nv 6 [0, 0], .int .i64 21], nv 6 [a, b], .tuple #[nv 6 [0, 0], .int .i64 21], nv 6 [0, 0], .int .i64 21, nv 6 [a, b], .bool r, nv 6 [c, d], .bool r, .bool false, .bool false, .bool true, .bool false, .bool false, .int .i64 21, .bool false, ud, ud, ud, ud, ud, ud, ud, ud, ud, ud, ud, ud, ud, ud, .int .i64 21, .bool true, .bool true, nv 6 [0, 0], nv 6 [0, 0], .bool true, .bool true, ud, ud, ud, ud, ud], []⟩) (v := .bool true) rfl rfl (ex_pick (r := true) rfl) ?_
  refine sq_val (a' := ⟨#[nv 6 [a, b], pt w.heap.size, .bool false, pt w3.heap.size, pt w13.heap.size, .int .i64 21, nv 6 [a, b], nv 6 [c, d], .tuple #[nv 6 [0, 0], .int .i64 21], nv 6 [a, b], .tuple #[nv 6 [0, 0], .int .i64 21], nv 6 [0, 0], .int .i64 21, nv 6 [a, b], .bool r, nv 6 [c, d], .bool r, .bool false, .bool false, .bool true, .bool false, .bool false, .int .i64 21, .bool false, ud, ud, ud, ud, ud, ud, ud, ud, ud, ud, ud, ud, ud, ud, .int .i64 21, .bool true, .bool true, nv 6 [0, 0], nv 6 [0, 0], .bool true, .bool true, .bool true, ud, ud, ud, ud], []⟩) (v := .bool true) rfl rfl (ex_move _) ?_
  refine sq_val (a' := ⟨#[nv 6 [a, b], pt w.heap.size, .bool false, pt w3.heap.size, pt w13.heap.size, .int .i64 21, nv 6 [a, b], nv 6 [c, d], .tuple #[nv 6 [0, 0], .int .i64 21], nv 6 [a, b], .tuple #[nv 6 [0, 0], .int .i64 21], nv 6 [0, 0], .int .i64 21, nv 6 [a, b], .bool r, nv 6 [c, d], .bool r, .bool false, .bool false, .bool true, .bool false, .bool false, .int .i64 21, .bool false, ud, ud, ud, ud, ud, ud, ud, ud, ud, ud, ud, ud, ud, ud, .int .i64 21, .bool true, .bool true, nv 6 [0, 0], nv 6 [0, 0], .bool true, .bool true, .bool true, nv 6 [c, d], ud, ud, ud], []⟩) (v := nv 6 [c, d]) rfl rfl (ex_loadn (K := 6) (k := 0) (j := 2) (l := [c, d]) flFp2 rfl A29 rfl _ rfl) ?_
  refine sq_call (a' := ⟨#[nv 6 [a, b], pt w.heap.size, .bool false, pt w3.heap.size, pt w13.heap.size, .int .i64 21, nv 6 [a, b], nv 6 [c, d], .tuple #[nv 6 [0, 0], .int .i64 21], nv 6 [a, b], .tuple #[nv 6 [0, 0], .int .i64 21], nv 6 [0, 0], .int .i64 21, nv 6 [a, b], .bool r, nv 6 [c, d], .bool r, .bool false, .bool false, .bool true, .bool false, .bool false, .int .i64 21, .bool false, ud, ud, ud, ud, ud, ud, ud, ud, ud, ud, ud, ud, ud, ud, .int .i64 21, .bool true, .bool true, nv 6 [0, 0], nv 6 [0, 0], .bool true, .bool true, .bool true, nv 6 [c, d], .bool false, ud, ud], []⟩) (v := .bool false) rfl rfl (ex_call (vs := [nv 6 [c, d]]) rfl Try.call48 rfl) (r5Square_none c d _ bc bd hsq) ?_
  intro w32 hb32
  have A33 := A28.keep hb32
  have A34 := A29.keep hb32
  have A35 := A30.keep hb32
  have HB36 := below_then HB31 hb32
  refine sq_val (a' := ⟨#[nv 6 [a, b], pt w.heap.size, .bool false, pt w3.heap.size, pt w13.heap.size, .int .i64 21, nv 6 [a, b], nv 6 [c, d], .tuple #[nv 6 [0, 0], .int .i64 21], nv 6 [a, b], .tuple #[nv 6 [0, 0], .int .i64 21], nv 6 [0, 0], .int .i64 21, nv 6 [a, b], .bool r, nv 6 [c, d], .bool r, .bool false, .bool false, .bool true, .bool false, .bool false, .int .i64 21, .bool false, ud, ud, ud, ud, ud, ud, ud, ud, ud, ud, ud, ud, ud, ud, .int .i64 21, .bool true, .bool true, nv 6 [0, 0], nv 6 [0, 0], .bool true, .bool true, .bool true, nv 6 [c, d], .bool false, .bool true, ud], []⟩) (v := .bool true) rfl rfl (ex_not (r := false) rfl) ?_
  refine sq_val (a' := ⟨#[nv 6 [a, b], pt w.heap.size, .bool false, pt w3.heap.size, pt w13.heap.size, .int .i64 21, nv 6 [a, b], nv 6 [c, d], .tuple #[nv 6 [0, 0], .int .i64 21], nv 6 [a, b], .tuple #[nv 6 [0, 0], .int .i64 21], nv 6 [0, 0], .int .i64 21, nv 6 [a, b], .bool r, nv 6 [c, d], .bool r, .bool false, .bool false, .bool true, .bool false, .bool false, .int .i64 21, .bool false, ud, ud, ud, ud, ud, ud, ud, ud, ud, ud, ud, ud, ud, ud, .int .i64 21, .bool true, .bool true, nv 6 [0, 0], nv 6 [0, 0], .bool true, .bool true, .bool true, nv 6 [c, d], .bool false, .bool true, .bool true], []⟩) (v := .bool true) rfl rfl (ex_pick (r := true) rfl) ?_
  refine sq_val (a' := ⟨#[nv 6 [a, b], pt w.heap.size, .bool true, pt w3.heap.size, pt w13.heap.size, .int .i64 21, nv 6 [a, b], nv 6 [c, d], .tuple #[nv 6 [0, 0], .int .i64 21], nv 6 [a, b], .tuple #[nv 6 [0, 0], .int .i64 21], nv 6 [0, 0], .int .i64 21, nv 6 [a, b], .bool r, nv 6 [c, d], .bool r, .bool false, .bool false, .bool true, .bool false, .bool false, .int .i64 21, .bool false, ud, ud, ud, ud, ud, ud, ud, ud, ud, ud, ud, ud, ud, ud, .int .i64 21, .bool true, .bool true, nv 6 [0, 0], nv 6 [0, 0], .bool true, .bool true, .bool true, nv 6 [c, d], .bool false, .bool true, .bool true], []⟩) (v := .bool true) rfl rfl (ex_assign _) ?_
  refine seq_nil ?_
  exact wp_ret (bodyPost_ret (ret_tmp Try.results8 rfl) rfl ⟨rfl, HB36⟩)

theorem duoRoots_v (a b : Nat) (w : World) (ha : a < fpB) (hb : b < fpB) : Calls Try.prog 8 #[nv 6 [a, b]] w (Is (.bool true) w) := by
  obtain ⟨v0, v1, e, hR, HR⟩ := duoRoot_v a b ha hb
  rcases hR.ok with he | ⟨he, h0, h1⟩
  · subst he
    exact duoRoots_ok a b w ha hb v0 v1 hR HR
  · have hq : pRootE (pAdd (pMul (pCl a) (pCl a)) (pMul (pCl b) (pCl b))) = 21 := by
      rcases rootE_or (pAdd (pMul (pCl a) (pCl a)) (pMul (pCl b) (pCl b))) with hq | hq
      · have := hR.why.2 (.inr hq)
        rw [he] at this
        cases this
      · exact hq
    rw [he, h0, h1] at HR
    exact duoRoots_no a b w ha hb hq HR

end Go.Proofs.Ytgkdkahgiihlfaa

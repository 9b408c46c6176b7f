/- What is proved here: the law DuoMuls. -/
import Derived.Test.YtgkdkahgiihlfaaDuo1
namespace Go.Proofs.Ytgkdkahgiihlfaa
open Go.RowKit

set_option maxRecDepth 20000 in
set_option maxHeartbeats 4000000 in
theorem r5Right_v (a b : Nat) (w : World) (ha : a < pN) (hb : b < pN) :
    Calls Try.prog 47 #[nv 6 [a, b]] w (Is (.bool true) w) := by
  go_enter Try.func47, Try.ntmps47
  refine seq_lit ?_
  refine sq_new (a' := ⟨#[nv 6 [a, b], .pointer (some ⟨w.heap.size, 0, none⟩), undef, undef, undef, undef, undef], []⟩) (xs := rows 6 [a, b]) rfl rfl (ex_boxn (K := 6) (l := [a, b]) rfl) ?_
  intro w1 N1 hb1
  have HB2 := below_then (Below.refl w.heap.size w) hb1
  refine sq_val (a' := ⟨#[nv 6 [a, b], .pointer (some ⟨w.heap.size, 0, none⟩), .bool false, undef, undef, undef, undef], []⟩) (v := .bool false) rfl rfl (ex_assign _) ?_
  refine seq_nil ?_
  refine wp_seq (wp_region_p (F := ⟨#[nv 6 [a, b], .pointer (some ⟨w.heap.size, 0, none⟩), .bool true, nv 6 [a, b], nv 6 [a, b], nv 6 [a, b], .bool true], []⟩) (S := Bel w1) [(3, nv 6 [a, b]), (4, nv 6 [a, b]), (5, nv 6 [a, b]), (6, .bool true), (2, .bool true)] (by kernel_rfl) (by kernel_rfl) (by kernel_rfl) (by kernel_rfl) rfl (by simp only [putAll, List.setIfInBounds_toArray, List.set_cons_zero, List.set_cons_succ]) (Bel.start _) ?_ ?_)
  · refine PlanSteps.cons (ps_val (v := nv 6 [a, b]) rfl rfl rfl (fun W' h => ex_loadn (K := 6) (k := 0) (j := 2) (l := [a, b]) flFp2 rfl (N1.keep h.out) rfl _ rfl)) ?_
    refine PlanSteps.cons (ps_call (v := nv 6 [a, b]) rfl rfl rfl (fun W' => ex_call (vs := [nv 6 [a, b]]) rfl Try.call29 rfl) (fun W' h => r5Clean_e a b _ (Nat.lt_trans ha fpM_lt) (Nat.lt_trans hb fpM_lt) a b (pCl_of ha).symm (pCl_of hb).symm)) ?_
    refine PlanSteps.cons (ps_val (v := nv 6 [a, b]) rfl rfl rfl (fun W' h => ex_loadn (K := 6) (k := 0) (j := 2) (l := [a, b]) flFp2 rfl (N1.keep h.out) rfl _ rfl)) ?_
    refine PlanSteps.cons (ps_val (v := .bool true) rfl rfl rfl (fun W' h => ex_eqt (K := 6) (l := [a, b]) eqFp2 rfl rfl rfl rfl)) ?_
    refine PlanSteps.cons (ps_val (v := .bool true) rfl rfl rfl (fun W' h => ex_assign _)) ?_
    exact PlanSteps.nil
  intro w3 hb3
  refine then_n ?_
  have A4 := N1.keep hb3.out
  have HB5 := below_then HB2 hb3.out
  exact wp_ret (bodyPost_ret (ret_tmp Try.results47 rfl) rfl ⟨rfl, HB5⟩)

set_option maxRecDepth 20000 in
set_option maxHeartbeats 4000000 in
theorem r5Inv_zero  (w : World)  :
    Calls Try.prog 42 #[nv 6 [0, 0], nv 6 [0, 0]] w (Is (.bool true) w) := by
  go_enter Try.func42, Try.ntmps42
  refine seq_lit ?_
  refine sq_new (a' := ⟨#[nv 6 [0, 0], nv 6 [0, 0], .pointer (some ⟨w.heap.size, 0, none⟩), undef, undef, undef, undef, undef, undef, undef, undef, undef, undef, undef, undef, undef, undef, undef, undef, undef, undef], []⟩) (xs := rows 6 [0, 0]) rfl rfl (ex_boxn (K := 6) (l := [0, 0]) rfl) ?_
  intro w1 N1 hb1
  have HB2 := below_then (Below.refl w.heap.size w) hb1
  refine sq_new (a' := ⟨#[nv 6 [0, 0], nv 6 [0, 0], .pointer (some ⟨w.heap.size, 0, none⟩), .pointer (some ⟨w1.heap.size, 0, none⟩), undef, undef, undef, undef, undef, undef, undef, undef, undef, undef, undef, undef, undef, undef, undef, undef, undef], []⟩) (xs := rows 6 [0, 0]) rfl rfl (ex_boxn (K := 6) (l := [0, 0]) rfl) ?_
  intro w3 N3 hb3
  have A4 := N1.keep hb3
  have HB5 := below_then HB2 hb3
  refine sq_val (a' := ⟨#[nv 6 [0, 0], nv 6 [0, 0], .pointer (some ⟨w.heap.size, 0, none⟩), .pointer (some ⟨w1.heap.size, 0, none⟩), .bool false, undef, undef, undef, undef, undef, undef, undef, undef, undef, undef, undef, undef, undef, undef, undef, undef], []⟩) (v := .bool false) rfl rfl (ex_assign _) ?_
  refine seq_nil ?_
  refine wp_seq ?_
  refine seq_lit ?_
  refine sq_val (a' := ⟨#[nv 6 [0, 0], nv 6 [0, 0], .pointer (some ⟨w.heap.size, 0, none⟩), .pointer (some ⟨w1.heap.size, 0, none⟩), .bool false, nv 6 [0, 0], undef, undef, undef, undef, undef, undef, undef, undef, undef, undef, undef, undef, undef, undef, undef], []⟩) (v := nv 6 [0, 0]) rfl rfl (ex_loadn (K := 6) (k := 0) (j := 2) (l := [0, 0]) flFp2 rfl A4 rfl _ rfl) ?_
  refine sq_val (a' := ⟨#[nv 6 [0, 0], nv 6 [0, 0], .pointer (some ⟨w.heap.size, 0, none⟩), .pointer (some ⟨w1.heap.size, 0, none⟩), .bool false, nv 6 [0, 0], nv 6 [0, 0], undef, undef, undef, undef, undef, undef, undef, undef, undef, undef, undef, undef, undef, undef], []⟩) (v := nv 6 [0, 0]) rfl rfl (ex_build stFp2 (vs := []) rfl (bd0)) ?_
  refine sq_val (a' := ⟨#[nv 6 [0, 0], nv 6 [0, 0], .pointer (some ⟨w.heap.size, 0, none⟩), .pointer (some ⟨w1.heap.size, 0, none⟩), .bool false, nv 6 [0, 0], nv 6 [0, 0], .bool true, undef, undef, undef, undef, undef, undef, undef, undef, undef, undef, undef, undef, undef], []⟩) (v := .bool true) rfl rfl (ex_eqt (K := 6) (l := [0, 0]) eqFp2 rfl rfl rfl rfl) ?_
  refine seq_nil ?_
  refine wp_cond_true rfl ?_
  refine seq_lit ?_
  refine sq_val (a' := ⟨#[nv 6 [0, 0], nv 6 [0, 0], .pointer (some ⟨w.heap.size, 0, none⟩), .pointer (some ⟨w1.heap.size, 0, none⟩), .bool false, nv 6 [0, 0], nv 6 [0, 0], .bool true, nv 6 [0, 0], undef, undef, undef, undef, undef, undef, undef, undef, undef, undef, undef, undef], []⟩) (v := nv 6 [0, 0]) rfl rfl (ex_loadn (K := 6) (k := 0) (j := 2) (l := [0, 0]) flFp2 rfl N3 rfl _ rfl) ?_
  refine sq_val (a' := ⟨#[nv 6 [0, 0], nv 6 [0, 0], .pointer (some ⟨w.heap.size, 0, none⟩), .pointer (some ⟨w1.heap.size, 0, none⟩), .bool false, nv 6 [0, 0], nv 6 [0, 0], .bool true, nv 6 [0, 0], nv 6 [0, 0], undef, undef, undef, undef, undef, undef, undef, undef, undef, undef, undef], []⟩) (v := nv 6 [0, 0]) rfl rfl (ex_loadn (K := 6) (k := 0) (j := 2) (l := [0, 0]) flFp2 rfl A4 rfl _ rfl) ?_
  refine sq_val (a' := ⟨#[nv 6 [0, 0], nv 6 [0, 0], .pointer (some ⟨w.heap.size, 0, none⟩), .pointer (some ⟨w1.heap.size, 0, none⟩), .bool false, nv 6 [0, 0], nv 6 [0, 0], .bool true, nv 6 [0, 0], nv 6 [0, 0], .bool true, undef, undef, undef, undef, undef, undef, undef, undef, undef, undef], []⟩) (v := .bool true) rfl rfl (ex_eqt (K := 6) (l := [0, 0]) eqFp2 rfl rfl rfl rfl) ?_
  refine sq_val (a' := ⟨#[nv 6 [0, 0], nv 6 [0, 0], .pointer (some ⟨w.heap.size, 0, none⟩), .pointer (some ⟨w1.heap.size, 0, none⟩), .bool true, nv 6 [0, 0], nv 6 [0, 0], .bool true, nv 6 [0, 0], nv 6 [0, 0], .bool true, undef, undef, undef, undef, undef, undef, undef, undef, undef, undef], []⟩) (v := .bool true) rfl rfl (ex_assign _) ?_
  refine seq_nil ?_
  exact wp_ret (bodyPost_ret (ret_tmp Try.results42 rfl) rfl ⟨rfl, HB5⟩)

set_option maxRecDepth 20000 in
set_option maxHeartbeats 4000000 in
theorem r5Inv_unit (a b c d : Nat) (w : World) (ha : a < pN) (hb : b < pN) (hc : c < pN) (hd : d < pN) (hne : [a, b] ≠ [0, 0]) (h1 : 1 = pSub (pMul a c) (pMul b d)) (h0 : 0 = pAdd (pMul a d) (pMul b c)) :
    Calls Try.prog 42 #[nv 6 [a, b], nv 6 [c, d]] w (Is (.bool true) w) := by
  go_enter Try.func42, Try.ntmps42
  refine seq_lit ?_
  refine sq_new (a' := ⟨#[nv 6 [a, b], nv 6 [c, d], .pointer (some ⟨w.heap.size, 0, none⟩), undef, undef, undef, undef, undef, undef, undef, undef, undef, undef, undef, undef, undef, undef, undef, undef, undef, undef], []⟩) (xs := rows 6 [a, b]) rfl rfl (ex_boxn (K := 6) (l := [a, b]) rfl) ?_
  intro w1 N1 hb1
  have HB2 := below_then (Below.refl w.heap.size w) hb1
  refine sq_new (a' := ⟨#[nv 6 [a, b], nv 6 [c, d], .pointer (some ⟨w.heap.size, 0, none⟩), .pointer (some ⟨w1.heap.size, 0, none⟩), undef, undef, undef, undef, undef, undef, undef, undef, undef, undef, undef, undef, undef, undef, undef, undef, undef], []⟩) (xs := rows 6 [c, d]) rfl rfl (ex_boxn (K := 6) (l := [c, d]) rfl) ?_
  intro w3 N3 hb3
  have A4 := N1.keep hb3
  have HB5 := below_then HB2 hb3
  refine sq_val (a' := ⟨#[nv 6 [a, b], nv 6 [c, d], .pointer (some ⟨w.heap.size, 0, none⟩), .pointer (some ⟨w1.heap.size, 0, none⟩), .bool false, undef, undef, undef, undef, undef, undef, undef, undef, undef, undef, undef, undef, undef, undef, undef, undef], []⟩) (v := .bool false) rfl rfl (ex_assign _) ?_
  refine seq_nil ?_
  refine wp_seq ?_
  refine seq_lit ?_
  refine sq_val (a' := ⟨#[nv 6 [a, b], nv 6 [c, d], .pointer (some ⟨w.heap.size, 0, none⟩), .pointer (some ⟨w1.heap.size, 0, none⟩), .bool false, nv 6 [a, b], undef, undef, undef, undef, undef, undef, undef, undef, undef, undef, undef, undef, undef, undef, undef], []⟩) (v := nv 6 [a, b]) rfl rfl (ex_loadn (K := 6) (k := 0) (j := 2) (l := [a, b]) flFp2 rfl A4 rfl _ rfl) ?_
  refine sq_val (a' := ⟨#[nv 6 [a, b], nv 6 [c, d], .pointer (some ⟨w.heap.size, 0, none⟩), .pointer (some ⟨w1.heap.size, 0, none⟩), .bool false, nv 6 [a, b], nv 6 [0, 0], undef, undef, undef, undef, undef, undef, undef, undef, undef, undef, undef, undef, undef, undef], []⟩) (v := nv 6 [0, 0]) rfl rfl (ex_build stFp2 (vs := []) rfl (bd0)) ?_
  refine sq_val (a' := ⟨#[nv 6 [a, b], nv 6 [c, d], .pointer (some ⟨w.heap.size, 0, none⟩), .pointer (some ⟨w1.heap.size, 0, none⟩), .bool false, nv 6 [a, b], nv 6 [0, 0], .bool false, undef, undef, undef, undef, undef, undef, undef, undef, undef, undef, undef, undef, undef], []⟩) (v := .bool false) rfl rfl (ex_eqn (K := 6) (l := [a, b]) (m := [0, 0]) eqFp2 rfl rfl rfl rfl rfl (fpB_all2 (Nat.lt_trans ha fpM_lt) (Nat.lt_trans hb fpM_lt)) (fpB_all2 zero_B zero_B) rfl false (decide_eq_false hne).symm) ?_
  refine seq_nil ?_
  refine wp_cond_false rfl ?_
  refine wp_skip (then_n ?_)
  refine seq_lit ?_
  refine sq_val (a' := ⟨#[nv 6 [a, b], nv 6 [c, d], .pointer (some ⟨w.heap.size, 0, none⟩), .pointer (some ⟨w1.heap.size, 0, none⟩), .bool false, nv 6 [a, b], nv 6 [0, 0], .bool false, undef, undef, undef, nv 6 [c, d], undef, undef, undef, undef, undef, undef, undef, undef, undef], []⟩) (v := nv 6 [c, d]) rfl rfl (ex_loadn (K := 6) (k := 0) (j := 2) (l := [c, d]) flFp2 rfl N3 rfl _ rfl) ?_
  refine sq_call (a' := ⟨#[nv 6 [a, b], nv 6 [c, d], .pointer (some ⟨w.heap.size, 0, none⟩), .pointer (some ⟨w1.heap.size, 0, none⟩), .bool false, nv 6 [a, b], nv 6 [0, 0], .bool false, undef, undef, undef, nv 6 [c, d], .bool true, undef, undef, undef, undef, undef, undef, undef, undef], []⟩) (v := .bool true) rfl rfl (ex_call (vs := [nv 6 [c, d]]) rfl Try.call47 rfl) (r5Right_v c d _ hc hd) ?_
  intro w7 hb7
  have A8 := A4.keep hb7
  have A9 := N3.keep hb7
  have HB10 := below_then HB5 hb7
  refine sq_val (a' := ⟨#[nv 6 [a, b], nv 6 [c, d], .pointer (some ⟨w.heap.size, 0, none⟩), .pointer (some ⟨w1.heap.size, 0, none⟩), .bool false, nv 6 [a, b], nv 6 [0, 0], .bool false, undef, undef, undef, nv 6 [c, d], .bool true, .bool true, undef, undef, undef, undef, undef, undef, undef], []⟩) (v := .bool true) rfl rfl (ex_move _) ?_
  refine sq_val (a' := ⟨#[nv 6 [a, b], nv 6 [c, d], .pointer (some ⟨w.heap.size, 0, none⟩), .pointer (some ⟨w1.heap.size, 0, none⟩), .bool false, nv 6 [a, b], nv 6 [0, 0], .bool false, undef, undef, undef, nv 6 [c, d], .bool true, .bool true, nv 6 [a, b], undef, undef, undef, undef, undef, undef], []⟩) (v := nv 6 [a, b]) rfl rfl (ex_loadn (K := 6) (k := 0) (j := 2) (l := [a, b]) flFp2 rfl A8 rfl _ rfl) ?_
  refine sq_val (a' := ⟨#[nv 6 [a, b], nv 6 [c, d], .pointer (some ⟨w.heap.size, 0, none⟩), .pointer (some ⟨w1.heap.size, 0, none⟩), .bool false, nv 6 [a, b], nv 6 [0, 0], .bool false, undef, undef, undef, nv 6 [c, d], .bool true, .bool true, nv 6 [a, b], nv 6 [c, d], undef, undef, undef, undef, undef], []⟩) (v := nv 6 [c, d]) rfl rfl (ex_loadn (K := 6) (k := 0) (j := 2) (l := [c, d]) flFp2 rfl A9 rfl _ rfl) ?_
  refine sq_call (a' := ⟨#[nv 6 [a, b], nv 6 [c, d], .pointer (some ⟨w.heap.size, 0, none⟩), .pointer (some ⟨w1.heap.size, 0, none⟩), .bool false, nv 6 [a, b], nv 6 [0, 0], .bool false, undef, undef, undef, nv 6 [c, d], .bool true, .bool true, nv 6 [a, b], nv 6 [c, d], nv 6 [1, 0], undef, undef, undef, undef], []⟩) (v := nv 6 [1, 0]) rfl rfl (ex_call (vs := [nv 6 [a, b], nv 6 [c, d]]) rfl Try.call41 rfl) (r5Mul_e a b c d _ ha hb hc hd 1 0 h1 h0) ?_
  intro w11 hb11
  have A12 := A8.keep hb11
  have A13 := A9.keep hb11
  have HB14 := below_then HB10 hb11
  refine sq_val (a' := ⟨#[nv 6 [a, b], nv 6 [c, d], .pointer (some ⟨w.heap.size, 0, none⟩), .pointer (some ⟨w1.heap.size, 0, none⟩), .bool false, nv 6 [a, b], nv 6 [0, 0], .bool false, undef, undef, undef, nv 6 [c, d], .bool true, .bool true, nv 6 [a, b], nv 6 [c, d], nv 6 [1, 0], nv 6 [1], undef, undef, undef], []⟩) (v := nv 6 [1]) rfl rfl (ex_one rfl) ?_
  refine sq_val (a' := ⟨#[nv 6 [a, b], nv 6 [c, d], .pointer (some ⟨w.heap.size, 0, none⟩), .pointer (some ⟨w1.heap.size, 0, none⟩), .bool false, nv 6 [a, b], nv 6 [0, 0], .bool false, undef, undef, undef, nv 6 [c, d], .bool true, .bool true, nv 6 [a, b], nv 6 [c, d], nv 6 [1, 0], nv 6 [1], nv 6 [1, 0], undef, undef], []⟩) (v := nv 6 [1, 0]) rfl rfl (ex_build stFp2 (vs := [(0, nv 6 [1])]) rfl (bdA 1)) ?_
  refine sq_val (a' := ⟨#[nv 6 [a, b], nv 6 [c, d], .pointer (some ⟨w.heap.size, 0, none⟩), .pointer (some ⟨w1.heap.size, 0, none⟩), .bool false, nv 6 [a, b], nv 6 [0, 0], .bool false, undef, undef, undef, nv 6 [c, d], .bool true, .bool true, nv 6 [a, b], nv 6 [c, d], nv 6 [1, 0], nv 6 [1], nv 6 [1, 0], .bool true, undef], []⟩) (v := .bool true) rfl rfl (ex_eqt (K := 6) (l := [1, 0]) eqFp2 rfl rfl rfl rfl) ?_
  refine sq_val (a' := ⟨#[nv 6 [a, b], nv 6 [c, d], .pointer (some ⟨w.heap.size, 0, none⟩), .pointer (some ⟨w1.heap.size, 0, none⟩), .bool false, nv 6 [a, b], nv 6 [0, 0], .bool false, undef, undef, undef, nv 6 [c, d], .bool true, .bool true, nv 6 [a, b], nv 6 [c, d], nv 6 [1, 0], nv 6 [1], nv 6 [1, 0], .bool true, .bool true], []⟩) (v := .bool true) rfl rfl (ex_pick (r := true) rfl) ?_
  refine sq_val (a' := ⟨#[nv 6 [a, b], nv 6 [c, d], .pointer (some ⟨w.heap.size, 0, none⟩), .pointer (some ⟨w1.heap.size, 0, none⟩), .bool true, nv 6 [a, b], nv 6 [0, 0], .bool false, undef, undef, undef, nv 6 [c, d], .bool true, .bool true, nv 6 [a, b], nv 6 [c, d], nv 6 [1, 0], nv 6 [1], nv 6 [1, 0], .bool true, .bool true], []⟩) (v := .bool true) rfl rfl (ex_assign _) ?_
  refine seq_nil ?_
  exact wp_ret (bodyPost_ret (ret_tmp Try.results42 rfl) rfl ⟨rfl, HB14⟩)

set_option maxRecDepth 20000 in
set_option maxHeartbeats 4000000 in
theorem duoMuls_v (a b c d : Nat) (w : World) (ha : a < fpB) (hb : b < fpB) (hc : c < fpB) (hd : d < fpB) :
    Calls Try.prog 7 #[nv 6 [a, b], nv 6 [c, d]] w (Is (.bool true) w) := by
  obtain ⟨z1, ez1⟩ : ∃ z, z = (pCl a) := ⟨_, rfl⟩
  have bz1 : z1 < pN := by rw [ez1]; exact pCl_P _
  obtain ⟨z2, ez2⟩ : ∃ z, z = (pCl b) := ⟨_, rfl⟩
  have bz2 : z2 < pN := by rw [ez2]; exact pCl_P _
  obtain ⟨i, hi⟩ : ∃ z, z = pInv (pAdd (pMul a a) (pMul b b)) := ⟨_, rfl⟩
  obtain ⟨u0, hu0⟩ : ∃ z, z = pMul (pCl a) i := ⟨_, rfl⟩
  obtain ⟨u1, hu1⟩ : ∃ z, z = pMul (pNeg b) i := ⟨_, rfl⟩
  have bu0 : u0 < pN := by rw [hu0]; exact pMul_P _ _
  have bu1 : u1 < pN := by rw [hu1]; exact pMul_P _ _
  have HC : ∀ W, Calls Try.prog 42 #[nv 6 [z1, z2], nv 6 [u0, u1]] W (Is (.bool true) W) := fun W => by
    by_cases hz : z1 = 0 ∧ z2 = 0
    · have h0 : u0 = 0 := by rw [hu0]; exact (zero_mul_i (by rw [← ez1]; exact hz.1)).symm
      have h1 : u1 = 0 := by rw [hu1]; exact (zero_mul_i (pNeg_zero (by rw [← ez2]; exact hz.2))).symm
      rw [hz.1, hz.2, h0, h1]
      exact r5Inv_zero W
    · have hr := norm_inv hi (fun h => hz ⟨by rw [ez1]; exact h.1, by rw [ez2]; exact h.2⟩)
      have ru0 := rep_eq hu0 (rep_mul (rep_cl (rep_self a)) (rep_self i))
      have ru1 := rep_eq hu1 (rep_mul (rep_neg (rep_self b)) (rep_self i))
      have ra := rep_eq ez1 (rep_cl (rep_self a))
      have rb := rep_eq ez2 (rep_cl (rep_self b))
      have HI1 : 1 = pSub (pMul z1 u0) (pMul z2 u1) := rep_uniq one_P (pSub_P _ _) hr (rep_sub (rep_mul ra ru0) (rep_mul rb ru1)) (by grind)
      have HI0 : 0 = pAdd (pMul z1 u1) (pMul z2 u0) := rep_uniq zero_P (pAdd_P _ _) rep_0 (rep_add (rep_mul ra ru1) (rep_mul rb ru0)) (by grind)
      exact r5Inv_unit z1 z2 u0 u1 W bz1 bz2 bu0 bu1 (fun h => hz (by injection h with h1 h2; injection h2 with h2 _; exact ⟨h1, h2⟩)) HI1 HI0
  obtain ⟨z3, ez3⟩ : ∃ z, z = (pCl c) := ⟨_, rfl⟩
  have bz3 : z3 < pN := by rw [ez3]; exact pCl_P _
  obtain ⟨z4, ez4⟩ : ∃ z, z = (pCl d) := ⟨_, rfl⟩
  have bz4 : z4 < pN := by rw [ez4]; exact pCl_P _
  obtain ⟨z5, ez5⟩ : ∃ z, z = (pSub (pMul a c) (pMul b d)) := ⟨_, rfl⟩
  have bz5 : z5 < pN := by rw [ez5]; exact pSub_P _ _
  obtain ⟨z6, ez6⟩ : ∃ z, z = (pAdd (pMul a d) (pMul b c)) := ⟨_, rfl⟩
  have bz6 : z6 < pN := by rw [ez6]; exact pAdd_P _ _
  have q1 : z5 = (pSub (pMul z1 z3) (pMul z2 z4)) := (rep_uniq (Nat.lt_of_le_of_lt (Nat.le_of_eq ez5) (pSub_P _ _)) (pSub_P _ _) (rep_eq ez5 (rep_sub (rep_mul (rep_self a) (rep_self c)) (rep_mul (rep_self b) (rep_self d)))) (rep_sub (rep_mul (rep_eq ez1 (rep_cl (rep_self a))) (rep_eq ez3 (rep_cl (rep_self c)))) (rep_mul (rep_eq ez2 (rep_cl (rep_self b))) (rep_eq ez4 (rep_cl (rep_self d))))) (by grind))
  have q2 : z6 = (pAdd (pMul z1 z4) (pMul z2 z3)) := (rep_uniq (Nat.lt_of_le_of_lt (Nat.le_of_eq ez6) (pAdd_P _ _)) (pAdd_P _ _) (rep_eq ez6 (rep_add (rep_mul (rep_self a) (rep_self d)) (rep_mul (rep_self b) (rep_self c)))) (rep_add (rep_mul (rep_eq ez1 (rep_cl (rep_self a))) (rep_eq ez4 (rep_cl (rep_self d)))) (rep_mul (rep_eq ez2 (rep_cl (rep_self b))) (rep_eq ez3 (rep_cl (rep_self c))))) (by grind))
  go_enter Try.func7, Try.ntmps7
  refine seq_lit ?_
  refine sq_new (a' := ⟨#[nv 6 [a, b], nv 6 [c, d], .pointer (some ⟨w.heap.size, 0, none⟩), undef, undef, undef, undef, undef, undef, undef, undef, undef, undef, undef, undef, undef, undef, undef, undef, undef, undef, undef, undef, undef, undef, undef, undef], []⟩) (xs := rows 6 [a, b]) rfl rfl (ex_boxn (K := 6) (l := [a, b]) rfl) ?_
  intro w1 N1 hb1
  have HB2 := below_then (Below.refl w.heap.size w) hb1
  refine sq_new (a' := ⟨#[nv 6 [a, b], nv 6 [c, d], .pointer (some ⟨w.heap.size, 0, none⟩), .pointer (some ⟨w1.heap.size, 0, none⟩), undef, undef, undef, undef, undef, undef, undef, undef, undef, undef, undef, undef, undef, undef, undef, undef, undef, undef, undef, undef, undef, undef, undef], []⟩) (xs := rows 6 [c, d]) rfl rfl (ex_boxn (K := 6) (l := [c, d]) rfl) ?_
  intro w3 N3 hb3
  have A4 := N1.keep hb3
  have HB5 := below_then HB2 hb3
  refine sq_val (a' := ⟨#[nv 6 [a, b], nv 6 [c, d], .pointer (some ⟨w.heap.size, 0, none⟩), .pointer (some ⟨w1.heap.size, 0, none⟩), .bool false, undef, undef, undef, undef, undef, undef, undef, undef, undef, undef, undef, undef, undef, undef, undef, undef, undef, undef, undef, undef, undef, undef], []⟩) (v := .bool false) rfl rfl (ex_assign _) ?_
  refine seq_nil ?_
  refine wp_seq (wp_region_two (F := fun γ => ⟨#[nv 6 [a, b], nv 6 [c, d], .pointer (some ⟨w.heap.size, 0, none⟩), .pointer (some ⟨w1.heap.size, 0, none⟩), .bool false, .pointer (some ⟨γ.1, 0, none⟩), .pointer (some ⟨γ.2, 0, none⟩), nv 6 [a, b], nv 6 [z1, z2], nv 6 [c, d], nv 6 [z3, z4], undef, undef, undef, undef, undef, undef, undef, undef, undef, undef, undef, undef, undef, undef, undef, undef], []⟩) 37 37 6 4 5 6 7 [0, 0] [0, 0] [z1, z2] [z3, z4] [(5, .pointer (some ⟨0, 0, none⟩)), (6, .pointer (some ⟨0, 0, none⟩)), (7, nv 6 [a, b]), (8, nv 6 [z1, z2]), (9, nv 6 [c, d]), (10, nv 6 [z3, z4])] (by kernel_rfl) (by kernel_rfl) (by kernel_rfl) (by kernel_rfl) rfl (by simp only [putAll, List.setIfInBounds_toArray, List.set_cons_zero, List.set_cons_succ]) rfl rfl rfl rfl ?_ ?_)
  · refine GSteps.cons (gs_val (v := nv 6 [a, b]) rfl (fun γ => rfl) (fun γ => rfl) (fun γ W' h => ex_loadn (K := 6) (k := 0) (j := 2) (l := [a, b]) flFp2 rfl (A4.keep h.out) rfl _ rfl) rfl rfl rfl rfl) ?_
    refine GSteps.cons (gs_call (v := nv 6 [z1, z2]) rfl (fun γ => rfl) (fun γ => rfl) (fun γ W' => ex_call (vs := [nv 6 [a, b]]) rfl Try.call29 rfl) (fun W' h => r5Clean_e a b _ ha hb z1 z2 ez1 ez2) rfl rfl rfl rfl) ?_
    refine GSteps.cons (gs_val (v := nv 6 [c, d]) rfl (fun γ => rfl) (fun γ => rfl) (fun γ W' h => ex_loadn (K := 6) (k := 0) (j := 2) (l := [c, d]) flFp2 rfl (N3.keep h.out) rfl _ rfl) rfl rfl rfl rfl) ?_
    refine GSteps.cons (gs_call (v := nv 6 [z3, z4]) rfl (fun γ => rfl) (fun γ => rfl) (fun γ W' => ex_call (vs := [nv 6 [c, d]]) rfl Try.call29 rfl) (fun W' h => r5Clean_e c d _ hc hd z3 z4 ez3 ez4) rfl rfl rfl rfl) ?_
    refine GSteps.cons (gs_new1 (fun γ => rfl) (fun γ n => rfl) (fun γ W' => ex_alloc zFp2) rfl rfl rfl rfl (by kernel_rfl)) ?_
    refine GSteps.cons (gs_new2 (fun γ => rfl) (fun γ n => rfl) (fun γ W' => ex_alloc zFp2) rfl rfl rfl rfl (by kernel_rfl)) ?_
    refine GSteps.cons (gs_store1 rfl (fun γ => rfl) rfl (fun γ W' hA => ex_storen (K := 6) (l := [0, 0]) (m := [z1, z2]) flFp2 rfl rfl hA rfl) rfl rfl rfl rfl rfl (by kernel_rfl) (by kernel_rfl)) ?_
    refine GSteps.cons (gs_store2 rfl (fun γ => rfl) rfl (fun γ W' hA => ex_storen (K := 6) (l := [0, 0]) (m := [z3, z4]) flFp2 rfl rfl hA rfl) rfl rfl rfl rfl rfl (by kernel_rfl) (by kernel_rfl)) ?_
    exact GSteps.nil
  intro g7 h7 w7 hb7 le7 lf7 ne7 N7 M7
  refine then_n ?_
  have A8 := A4.keep hb7.out
  have A9 := N3.keep hb7.out
  have HB10 := below_then HB5 hb7.out
  refine wp_seq (wp_region_p (F := ⟨#[nv 6 [a, b], nv 6 [c, d], .pointer (some ⟨w.heap.size, 0, none⟩), .pointer (some ⟨w1.heap.size, 0, none⟩), .bool true, .pointer (some ⟨g7, 0, none⟩), .pointer (some ⟨h7, 0, none⟩), nv 6 [a, b], nv 6 [z1, z2], nv 6 [c, d], nv 6 [z3, z4], .bool true, .bool true, nv 6 [a, b], nv 6 [c, d], nv 6 [z5, z6], nv 6 [z1, z2], nv 6 [z3, z4], nv 6 [z5, z6], .bool true, .bool true, .bool true, nv 6 [z1, z2], nv 6 [a, b], nv 6 [u0, u1], .bool true, .bool true], []⟩) (S := Bel w7) [(11, .bool true), (12, .bool true), (13, nv 6 [a, b]), (14, nv 6 [c, d]), (15, nv 6 [z5, z6]), (16, nv 6 [z1, z2]), (17, nv 6 [z3, z4]), (18, nv 6 [z5, z6]), (19, .bool true), (20, .bool true), (21, .bool true), (22, nv 6 [z1, z2]), (23, nv 6 [a, b]), (24, nv 6 [u0, u1]), (25, .bool true), (26, .bool true), (4, .bool true)] (by kernel_rfl) (by kernel_rfl) (by kernel_rfl) (by kernel_rfl) rfl (by simp only [putAll, List.setIfInBounds_toArray, List.set_cons_zero, List.set_cons_succ]) (Bel.start _) ?_ ?_)
  · refine PlanSteps.cons (ps_call (v := .bool true) rfl rfl rfl (fun W' => ex_call (vs := []) rfl Try.call30 rfl) (fun W' h => duoalive_v _)) ?_
    refine PlanSteps.cons (ps_val (v := .bool true) rfl rfl rfl (fun W' h => ex_move _)) ?_
    refine PlanSteps.cons (ps_val (v := nv 6 [a, b]) rfl rfl rfl (fun W' h => ex_loadn (K := 6) (k := 0) (j := 2) (l := [a, b]) flFp2 rfl (A8.keep h.out) rfl _ rfl)) ?_
    refine PlanSteps.cons (ps_val (v := nv 6 [c, d]) rfl rfl rfl (fun W' h => ex_loadn (K := 6) (k := 0) (j := 2) (l := [c, d]) flFp2 rfl (A9.keep h.out) rfl _ rfl)) ?_
    refine PlanSteps.cons (ps_call (v := nv 6 [z5, z6]) rfl rfl rfl (fun W' => ex_call (vs := [nv 6 [a, b], nv 6 [c, d]]) rfl Try.call40 rfl) (fun W' h => duoMul_e a b c d _ ha hb hc hd z5 z6 ez5 ez6)) ?_
    refine PlanSteps.cons (ps_val (v := nv 6 [z1, z2]) rfl rfl rfl (fun W' h => ex_loadn (K := 6) (k := 0) (j := 2) (l := [z1, z2]) flFp2 rfl (N7.keep h.out) rfl _ rfl)) ?_
    refine PlanSteps.cons (ps_val (v := nv 6 [z3, z4]) rfl rfl rfl (fun W' h => ex_loadn (K := 6) (k := 0) (j := 2) (l := [z3, z4]) flFp2 rfl (M7.keep h.out) rfl _ rfl)) ?_
    refine PlanSteps.cons (ps_call (v := nv 6 [z5, z6]) rfl rfl rfl (fun W' => ex_call (vs := [nv 6 [z1, z2], nv 6 [z3, z4]]) rfl Try.call41 rfl) (fun W' h => r5Mul_e z1 z2 z3 z4 _ bz1 bz2 bz3 bz4 z5 z6 q1 q2)) ?_
    refine PlanSteps.cons (ps_val (v := .bool true) rfl rfl rfl (fun W' h => ex_eqt (K := 6) (l := [z5, z6]) eqFp2 rfl rfl rfl rfl)) ?_
    refine PlanSteps.cons (ps_val (v := .bool true) rfl rfl rfl (fun W' h => ex_pick (r := true) rfl)) ?_
    refine PlanSteps.cons (ps_val (v := .bool true) rfl rfl rfl (fun W' h => ex_move _)) ?_
    refine PlanSteps.cons (ps_val (v := nv 6 [z1, z2]) rfl rfl rfl (fun W' h => ex_loadn (K := 6) (k := 0) (j := 2) (l := [z1, z2]) flFp2 rfl (N7.keep h.out) rfl _ rfl)) ?_
    refine PlanSteps.cons (ps_val (v := nv 6 [a, b]) rfl rfl rfl (fun W' h => ex_loadn (K := 6) (k := 0) (j := 2) (l := [a, b]) flFp2 rfl (A8.keep h.out) rfl _ rfl)) ?_
    refine PlanSteps.cons (ps_call (v := nv 6 [u0, u1]) rfl rfl rfl (fun W' => ex_call (vs := [nv 6 [a, b]]) rfl Try.call43 rfl) (fun W' h => duoInv_e a b _ ha hb i hi u0 u1 hu0 hu1)) ?_
    refine PlanSteps.cons (ps_call (v := .bool true) rfl rfl rfl (fun W' => ex_call (vs := [nv 6 [z1, z2], nv 6 [u0, u1]]) rfl Try.call42 rfl) (fun W' h => HC _)) ?_
    refine PlanSteps.cons (ps_val (v := .bool true) rfl rfl rfl (fun W' h => ex_pick (r := true) rfl)) ?_
    refine PlanSteps.cons (ps_val (v := .bool true) rfl rfl rfl (fun W' h => ex_assign _)) ?_
    exact PlanSteps.nil
  intro w11 hb11
  refine then_n ?_
  have A12 := A8.keep hb11.out
  have A13 := A9.keep hb11.out
  have A14 := N7.keep hb11.out
  have A15 := M7.keep hb11.out
  have HB16 := below_then HB10 hb11.out
  exact wp_ret (bodyPost_ret (ret_tmp Try.results7 rfl) rfl ⟨rfl, HB16⟩)

end Go.Proofs.Ytgkdkahgiihlfaa

/- What is proved here: the law FullMuls. -/
import Derived.Test.YtodabjelnllkgaaGreatFull3
namespace Go.Proofs.YtodabjelnllkgaaGreat
open Go.RowKit

set_option maxRecDepth 20000 in
set_option maxHeartbeats 4000000 in
theorem r7Inv_zero (w : World) :
    Calls Tryz.prog 8 #[nv 6 [0, 0, 0, 0, 0, 0, 0, 0, 0, 0, 0, 0], nv 6 [0, 0, 0, 0, 0, 0, 0, 0, 0, 0, 0, 0]] w (Is (.bool true) w) := by
  go_enter Tryz.func8, Tryz.ntmps8
  refine seq_lit ?_
  refine sq_new (a' := ⟨#[nv 6 [0, 0, 0, 0, 0, 0, 0, 0, 0, 0, 0, 0], nv 6 [0, 0, 0, 0, 0, 0, 0, 0, 0, 0, 0, 0], .pointer (some ⟨w.heap.size, 0, none⟩), undef, undef, undef, undef, undef, undef, undef, undef, undef, undef, undef, undef, undef, undef, undef, undef, undef, undef, undef], []⟩) (xs := rows 6 [0, 0, 0, 0, 0, 0, 0, 0, 0, 0, 0, 0]) rfl rfl (ex_boxn (K := 6) (l := [0, 0, 0, 0, 0, 0, 0, 0, 0, 0, 0, 0]) rfl) ?_
  intro w1 N1 hb1
  have HB2 := below_then (Below.refl w.heap.size w) hb1
  refine sq_new (a' := ⟨#[nv 6 [0, 0, 0, 0, 0, 0, 0, 0, 0, 0, 0, 0], nv 6 [0, 0, 0, 0, 0, 0, 0, 0, 0, 0, 0, 0], .pointer (some ⟨w.heap.size, 0, none⟩), .pointer (some ⟨w1.heap.size, 0, none⟩), undef, undef, undef, undef, undef, undef, undef, undef, undef, undef, undef, undef, undef, undef, undef, undef, undef, undef], []⟩) (xs := rows 6 [0, 0, 0, 0, 0, 0, 0, 0, 0, 0, 0, 0]) rfl rfl (ex_boxn (K := 6) (l := [0, 0, 0, 0, 0, 0, 0, 0, 0, 0, 0, 0]) rfl) ?_
  intro w3 N3 hb3
  have A4 := N1.keep hb3
  have HB5 := below_then HB2 hb3
  refine sq_val (a' := ⟨#[nv 6 [0, 0, 0, 0, 0, 0, 0, 0, 0, 0, 0, 0], nv 6 [0, 0, 0, 0, 0, 0, 0, 0, 0, 0, 0, 0], .pointer (some ⟨w.heap.size, 0, none⟩), .pointer (some ⟨w1.heap.size, 0, none⟩), .bool false, undef, undef, undef, undef, undef, undef, undef, undef, undef, undef, undef, undef, undef, undef, undef, undef, undef], []⟩) (v := .bool false) rfl rfl (ex_assign _) ?_
  refine seq_nil ?_
  refine wp_seq ?_
  refine seq_lit ?_
  refine sq_val (a' := ⟨#[nv 6 [0, 0, 0, 0, 0, 0, 0, 0, 0, 0, 0, 0], nv 6 [0, 0, 0, 0, 0, 0, 0, 0, 0, 0, 0, 0], .pointer (some ⟨w.heap.size, 0, none⟩), .pointer (some ⟨w1.heap.size, 0, none⟩), .bool false, nv 6 [0, 0, 0, 0, 0, 0, 0, 0, 0, 0, 0, 0], undef, undef, undef, undef, undef, undef, undef, undef, undef, undef, undef, undef, undef, undef, undef, undef], []⟩) (v := nv 6 [0, 0, 0, 0, 0, 0, 0, 0, 0, 0, 0, 0]) rfl rfl (ex_loadn (K := 6) (k := 0) (j := 12) (l := [0, 0, 0, 0, 0, 0, 0, 0, 0, 0, 0, 0]) flFp12 rfl A4 rfl _ rfl) ?_
  refine sq_val (a' := ⟨#[nv 6 [0, 0, 0, 0, 0, 0, 0, 0, 0, 0, 0, 0], nv 6 [0, 0, 0, 0, 0, 0, 0, 0, 0, 0, 0, 0], .pointer (some ⟨w.heap.size, 0, none⟩), .pointer (some ⟨w1.heap.size, 0, none⟩), .bool false, nv 6 [0, 0, 0, 0, 0, 0, 0, 0, 0, 0, 0, 0], nv 6 [0, 0, 0, 0, 0, 0, 0, 0, 0, 0, 0, 0], undef, undef, undef, undef, undef, undef, undef, undef, undef, undef, undef, undef, undef, undef, undef], []⟩) (v := nv 6 [0, 0, 0, 0, 0, 0, 0, 0, 0, 0, 0, 0]) rfl rfl (ex_build stFp12 (vs := []) rfl (bd012)) ?_
  refine sq_val (a' := ⟨#[nv 6 [0, 0, 0, 0, 0, 0, 0, 0, 0, 0, 0, 0], nv 6 [0, 0, 0, 0, 0, 0, 0, 0, 0, 0, 0, 0], .pointer (some ⟨w.heap.size, 0, none⟩), .pointer (some ⟨w1.heap.size, 0, none⟩), .bool false, nv 6 [0, 0, 0, 0, 0, 0, 0, 0, 0, 0, 0, 0], nv 6 [0, 0, 0, 0, 0, 0, 0, 0, 0, 0, 0, 0], .bool true, undef, undef, undef, undef, undef, undef, undef, undef, undef, undef, undef, undef, undef, undef], []⟩) (v := .bool true) rfl rfl (ex_eqt (K := 6) (l := [0, 0, 0, 0, 0, 0, 0, 0, 0, 0, 0, 0]) eqFp12 rfl rfl rfl rfl) ?_
  refine seq_nil ?_
  refine wp_cond_true rfl ?_
  refine seq_lit ?_
  refine sq_val (a' := ⟨#[nv 6 [0, 0, 0, 0, 0, 0, 0, 0, 0, 0, 0, 0], nv 6 [0, 0, 0, 0, 0, 0, 0, 0, 0, 0, 0, 0], .pointer (some ⟨w.heap.size, 0, none⟩), .pointer (some ⟨w1.heap.size, 0, none⟩), .bool false, nv 6 [0, 0, 0, 0, 0, 0, 0, 0, 0, 0, 0, 0], nv 6 [0, 0, 0, 0, 0, 0, 0, 0, 0, 0, 0, 0], .bool true, nv 6 [0, 0, 0, 0, 0, 0, 0, 0, 0, 0, 0, 0], undef, undef, undef, undef, undef, undef, undef, undef, undef, undef, undef, undef, undef], []⟩) (v := nv 6 [0, 0, 0, 0, 0, 0, 0, 0, 0, 0, 0, 0]) rfl rfl (ex_loadn (K := 6) (k := 0) (j := 12) (l := [0, 0, 0, 0, 0, 0, 0, 0, 0, 0, 0, 0]) flFp12 rfl N3 rfl _ rfl) ?_
  refine sq_val (a' := ⟨#[nv 6 [0, 0, 0, 0, 0, 0, 0, 0, 0, 0, 0, 0], nv 6 [0, 0, 0, 0, 0, 0, 0, 0, 0, 0, 0, 0], .pointer (some ⟨w.heap.size, 0, none⟩), .pointer (some ⟨w1.heap.size, 0, none⟩), .bool false, nv 6 [0, 0, 0, 0, 0, 0, 0, 0, 0, 0, 0, 0], nv 6 [0, 0, 0, 0, 0, 0, 0, 0, 0, 0, 0, 0], .bool true, nv 6 [0, 0, 0, 0, 0, 0, 0, 0, 0, 0, 0, 0], nv 6 [0, 0, 0, 0, 0, 0, 0, 0, 0, 0, 0, 0], undef, undef, undef, undef, undef, undef, undef, undef, undef, undef, undef, undef], []⟩) (v := nv 6 [0, 0, 0, 0, 0, 0, 0, 0, 0, 0, 0, 0]) rfl rfl (ex_loadn (K := 6) (k := 0) (j := 12) (l := [0, 0, 0, 0, 0, 0, 0, 0, 0, 0, 0, 0]) flFp12 rfl A4 rfl _ rfl) ?_
  refine sq_val (a' := ⟨#[nv 6 [0, 0, 0, 0, 0, 0, 0, 0, 0, 0, 0, 0], nv 6 [0, 0, 0, 0, 0, 0, 0, 0, 0, 0, 0, 0], .pointer (some ⟨w.heap.size, 0, none⟩), .pointer (some ⟨w1.heap.size, 0, none⟩), .bool false, nv 6 [0, 0, 0, 0, 0, 0, 0, 0, 0, 0, 0, 0], nv 6 [0, 0, 0, 0, 0, 0, 0, 0, 0, 0, 0, 0], .bool true, nv 6 [0, 0, 0, 0, 0, 0, 0, 0, 0, 0, 0, 0], nv 6 [0, 0, 0, 0, 0, 0, 0, 0, 0, 0, 0, 0], .bool true, undef, undef, undef, undef, undef, undef, undef, undef, undef, undef, undef], []⟩) (v := .bool true) rfl rfl (ex_eqt (K := 6) (l := [0, 0, 0, 0, 0, 0, 0, 0, 0, 0, 0, 0]) eqFp12 rfl rfl rfl rfl) ?_
  refine sq_val (a' := ⟨#[nv 6 [0, 0, 0, 0, 0, 0, 0, 0, 0, 0, 0, 0], nv 6 [0, 0, 0, 0, 0, 0, 0, 0, 0, 0, 0, 0], .pointer (some ⟨w.heap.size, 0, none⟩), .pointer (some ⟨w1.heap.size, 0, none⟩), .bool true, nv 6 [0, 0, 0, 0, 0, 0, 0, 0, 0, 0, 0, 0], nv 6 [0, 0, 0, 0, 0, 0, 0, 0, 0, 0, 0, 0], .bool true, nv 6 [0, 0, 0, 0, 0, 0, 0, 0, 0, 0, 0, 0], nv 6 [0, 0, 0, 0, 0, 0, 0, 0, 0, 0, 0, 0], .bool true, undef, undef, undef, undef, undef, undef, undef, undef, undef, undef, undef], []⟩) (v := .bool true) rfl rfl (ex_assign _) ?_
  refine seq_nil ?_
  exact wp_ret (bodyPost_ret (ret_tmp Tryz.results8 rfl) rfl ⟨rfl, HB5⟩)

set_option maxRecDepth 20000 in
set_option maxHeartbeats 4000000 in
theorem r7Inv_unit (c d : N12) (hc : ∀ x ∈ c.l, x < 2 ^ (64 * 6)) (hne : c.l ≠ [0, 0, 0, 0, 0, 0, 0, 0, 0, 0, 0, 0]) (hcl : ∀ w, Calls Tryz.prog 4 #[nv 6 d.l] w (Is (nv 6 d.l) w)) (hm : ∀ w, Calls Tryz.prog 7 #[nv 6 c.l, nv 6 d.l] w (Is (nv 6 [1, 0, 0, 0, 0, 0, 0, 0, 0, 0, 0, 0]) w)) (w : World) :
    Calls Tryz.prog 8 #[nv 6 c.l, nv 6 d.l] w (Is (.bool true) w) := by
  go_enter Tryz.func8, Tryz.ntmps8
  refine seq_lit ?_
  refine sq_new (a' := ⟨#[nv 6 c.l, nv 6 d.l, .pointer (some ⟨w.heap.size, 0, none⟩), undef, undef, undef, undef, undef, undef, undef, undef, undef, undef, undef, undef, undef, undef, undef, undef, undef, undef, undef], []⟩) (xs := rows 6 c.l) rfl rfl (ex_boxn (K := 6) (l := c.l) rfl) ?_
  intro w1 N1 hb1
  have HB2 := below_then (Below.refl w.heap.size w) hb1
  refine sq_new (a' := ⟨#[nv 6 c.l, nv 6 d.l, .pointer (some ⟨w.heap.size, 0, none⟩), .pointer (some ⟨w1.heap.size, 0, none⟩), undef, undef, undef, undef, undef, undef, undef, undef, undef, undef, undef, undef, undef, undef, undef, undef, undef, undef], []⟩) (xs := rows 6 d.l) rfl rfl (ex_boxn (K := 6) (l := d.l) rfl) ?_
  intro w3 N3 hb3
  have A4 := N1.keep hb3
  have HB5 := below_then HB2 hb3
  refine sq_val (a' := ⟨#[nv 6 c.l, nv 6 d.l, .pointer (some ⟨w.heap.size, 0, none⟩), .pointer (some ⟨w1.heap.size, 0, none⟩), .bool false, undef, undef, undef, undef, undef, undef, undef, undef, undef, undef, undef, undef, undef, undef, undef, undef, undef], []⟩) (v := .bool false) rfl rfl (ex_assign _) ?_
  refine seq_nil ?_
  refine wp_seq ?_
  refine seq_lit ?_
  refine sq_val (a' := ⟨#[nv 6 c.l, nv 6 d.l, .pointer (some ⟨w.heap.size, 0, none⟩), .pointer (some ⟨w1.heap.size, 0, none⟩), .bool false, nv 6 c.l, undef, undef, undef, undef, undef, undef, undef, undef, undef, undef, undef, undef, undef, undef, undef, undef], []⟩) (v := nv 6 c.l) rfl rfl (ex_loadn (K := 6) (k := 0) (j := 12) (l := c.l) flFp12 rfl A4 rfl _ rfl) ?_
  refine sq_val (a' := ⟨#[nv 6 c.l, nv 6 d.l, .pointer (some ⟨w.heap.size, 0, none⟩), .pointer (some ⟨w1.heap.size, 0, none⟩), .bool false, nv 6 c.l, nv 6 [0, 0, 0, 0, 0, 0, 0, 0, 0, 0, 0, 0], undef, undef, undef, undef, undef, undef, undef, undef, undef, undef, undef, undef, undef, undef, undef], []⟩) (v := nv 6 [0, 0, 0, 0, 0, 0, 0, 0, 0, 0, 0, 0]) rfl rfl (ex_build stFp12 (vs := []) rfl (bd012)) ?_
  refine sq_val (a' := ⟨#[nv 6 c.l, nv 6 d.l, .pointer (some ⟨w.heap.size, 0, none⟩), .pointer (some ⟨w1.heap.size, 0, none⟩), .bool false, nv 6 c.l, nv 6 [0, 0, 0, 0, 0, 0, 0, 0, 0, 0, 0, 0], .bool false, undef, undef, undef, undef, undef, undef, undef, undef, undef, undef, undef, undef, undef, undef], []⟩) (v := .bool false) rfl rfl (ex_eqn (K := 6) (l := c.l) (m := [0, 0, 0, 0, 0, 0, 0, 0, 0, 0, 0, 0]) eqFp12 rfl rfl rfl rfl rfl hc qp_zero_v rfl false (decide_eq_false hne).symm) ?_
  refine seq_nil ?_
  refine wp_cond_false rfl ?_
  refine wp_skip (then_n ?_)
  refine wp_seq (wp_region_p (F := ⟨#[nv 6 c.l, nv 6 d.l, .pointer (some ⟨w.heap.size, 0, none⟩), .pointer (some ⟨w1.heap.size, 0, none⟩), .bool true, nv 6 c.l, nv 6 [0, 0, 0, 0, 0, 0, 0, 0, 0, 0, 0, 0], .bool false, undef, undef, undef, nv 6 d.l, nv 6 d.l, nv 6 d.l, .bool true, .bool true, nv 6 c.l, nv 6 d.l, nv 6 [1, 0, 0, 0, 0, 0, 0, 0, 0, 0, 0, 0], nv 6 [1, 0, 0, 0, 0, 0, 0, 0, 0, 0, 0, 0], .bool true, .bool true], []⟩) (S := Bel w3) [(11, nv 6 d.l), (12, nv 6 d.l), (13, nv 6 d.l), (14, .bool true), (15, .bool true), (16, nv 6 c.l), (17, nv 6 d.l), (18, nv 6 [1, 0, 0, 0, 0, 0, 0, 0, 0, 0, 0, 0]), (19, nv 6 [1, 0, 0, 0, 0, 0, 0, 0, 0, 0, 0, 0]), (20, .bool true), (21, .bool true), (4, .bool true)] (by kernel_rfl) (by kernel_rfl) (by kernel_rfl) (by kernel_rfl) rfl (by simp only [putAll, List.setIfInBounds_toArray, List.set_cons_zero, List.set_cons_succ]) (Bel.start _) ?_ ?_)
  · refine PlanSteps.cons (ps_val (v := nv 6 d.l) rfl rfl rfl (fun W' h => ex_loadn (K := 6) (k := 0) (j := 12) (l := d.l) flFp12 rfl (N3.keep h.out) rfl _ rfl)) ?_
    refine PlanSteps.cons (ps_call (v := nv 6 d.l) rfl rfl rfl (fun W' => ex_call (vs := [nv 6 d.l]) rfl Tryz.call4 rfl) (fun W' h => hcl _)) ?_
    refine PlanSteps.cons (ps_val (v := nv 6 d.l) rfl rfl rfl (fun W' h => ex_loadn (K := 6) (k := 0) (j := 12) (l := d.l) flFp12 rfl (N3.keep h.out) rfl _ rfl)) ?_
    refine PlanSteps.cons (ps_val (v := .bool true) rfl rfl rfl (fun W' h => ex_eqt (K := 6) (l := d.l) eqFp12 rfl rfl rfl rfl)) ?_
    refine PlanSteps.cons (ps_val (v := .bool true) rfl rfl rfl (fun W' h => ex_move _)) ?_
    refine PlanSteps.cons (ps_val (v := nv 6 c.l) rfl rfl rfl (fun W' h => ex_loadn (K := 6) (k := 0) (j := 12) (l := c.l) flFp12 rfl (A4.keep h.out) rfl _ rfl)) ?_
    refine PlanSteps.cons (ps_val (v := nv 6 d.l) rfl rfl rfl (fun W' h => ex_loadn (K := 6) (k := 0) (j := 12) (l := d.l) flFp12 rfl (N3.keep h.out) rfl _ rfl)) ?_
    refine PlanSteps.cons (ps_call (v := nv 6 [1, 0, 0, 0, 0, 0, 0, 0, 0, 0, 0, 0]) rfl rfl rfl (fun W' => ex_call (vs := [nv 6 c.l, nv 6 d.l]) rfl Tryz.call7 rfl) (fun W' h => hm _)) ?_
    refine PlanSteps.cons (ps_call (v := nv 6 [1, 0, 0, 0, 0, 0, 0, 0, 0, 0, 0, 0]) rfl rfl rfl (fun W' => ex_call (vs := []) rfl Tryz.call12 rfl) (fun W' h => r7One_w _)) ?_
    refine PlanSteps.cons (ps_val (v := .bool true) rfl rfl rfl (fun W' h => ex_eqt (K := 6) (l := [1, 0, 0, 0, 0, 0, 0, 0, 0, 0, 0, 0]) eqFp12 rfl rfl rfl rfl)) ?_
    refine PlanSteps.cons (ps_val (v := .bool true) rfl rfl rfl (fun W' h => ex_pick (r := true) rfl)) ?_
    refine PlanSteps.cons (ps_val (v := .bool true) rfl rfl rfl (fun W' h => ex_assign _)) ?_
    exact PlanSteps.nil
  intro w7 hb7
  refine then_n ?_
  have A8 := A4.keep hb7.out
  have A9 := N3.keep hb7.out
  have HB10 := below_then HB5 hb7.out
  exact wp_ret (bodyPost_ret (ret_tmp Tryz.results8 rfl) rfl ⟨rfl, HB10⟩)

set_option maxRecDepth 20000 in
set_option maxHeartbeats 4000000 in
theorem fullMuls_v (a b : N12) (w : World) (la : ∀ x ∈ a.l, x < fpB) (lb : ∀ x ∈ b.l, x < fpB) :
    Calls Tryz.prog 3 #[nv 6 a.l, nv 6 b.l] w (Is (.bool true) w) := by
  obtain ⟨X, ha⟩ := qb_self a la
  obtain ⟨Y, hb⟩ := qb_self b lb
  obtain ⟨x, hx⟩ := qp_of (X)
  obtain ⟨y, hy⟩ := qp_of (Y)
  obtain ⟨m, hm⟩ := qp_of (E12.mul X Y)
  obtain ⟨u, U, hu, hI, hN, hU⟩ := fullInv_q ha
  have HC : ∀ W, Calls Tryz.prog 8 #[nv 6 x.l, nv 6 u.l] W (Is (.bool true) W) := fun W => by
    by_cases n : E12.Null X
    · rw [hN n, hx.null n]
      exact r7Inv_zero W
    · refine r7Inv_unit x u hx.toB.all (fun h => n ?_) (fun w => r7Clean_q hu.toB hu w) (fun w => r7Mul_q hx hu (v := ⟨1, 0, 0, 0, 0, 0, 0, 0, 0, 0, 0, 0⟩) (qp_one.cong (hU n).symm) w) W
      have e : x = ⟨0, 0, 0, 0, 0, 0, 0, 0, 0, 0, 0, 0⟩ := n12_l h
      exact null_of (e ▸ hx)
  go_enter Tryz.func3, Tryz.ntmps3
  refine seq_lit ?_
  refine sq_new (a' := ⟨#[nv 6 a.l, nv 6 b.l, .pointer (some ⟨w.heap.size, 0, none⟩), undef, undef, undef, undef, undef, undef, undef, undef, undef, undef, undef, undef, undef, undef, undef, undef, undef, undef, undef, undef, undef, undef, undef, undef], []⟩) (xs := rows 6 a.l) rfl rfl (ex_boxn (K := 6) (l := a.l) rfl) ?_
  intro w1 N1 hb1
  have HB2 := below_then (Below.refl w.heap.size w) hb1
  refine sq_new (a' := ⟨#[nv 6 a.l, nv 6 b.l, .pointer (some ⟨w.heap.size, 0, none⟩), .pointer (some ⟨w1.heap.size, 0, none⟩), undef, undef, undef, undef, undef, undef, undef, undef, undef, undef, undef, undef, undef, undef, undef, undef, undef, undef, undef, undef, undef, undef, undef], []⟩) (xs := rows 6 b.l) rfl rfl (ex_boxn (K := 6) (l := b.l) rfl) ?_
  intro w3 N3 hb3
  have A4 := N1.keep hb3
  have HB5 := below_then HB2 hb3
  refine sq_val (a' := ⟨#[nv 6 a.l, nv 6 b.l, .pointer (some ⟨w.heap.size, 0, none⟩), .pointer (some ⟨w1.heap.size, 0, none⟩), .bool false, undef, undef, undef, undef, undef, undef, undef, undef, undef, undef, undef, undef, undef, undef, undef, undef, undef, undef, undef, undef, undef, undef], []⟩) (v := .bool false) rfl rfl (ex_assign _) ?_
  refine seq_nil ?_
  refine wp_seq (wp_region_two (F := fun γ => ⟨#[nv 6 a.l, nv 6 b.l, .pointer (some ⟨w.heap.size, 0, none⟩), .pointer (some ⟨w1.heap.size, 0, none⟩), .bool false, .pointer (some ⟨γ.1, 0, none⟩), .pointer (some ⟨γ.2, 0, none⟩), nv 6 a.l, nv 6 x.l, nv 6 b.l, nv 6 y.l, undef, undef, undef, undef, undef, undef, undef, undef, undef, undef, undef, undef, undef, undef, undef, undef], []⟩) 30 30 6 4 5 6 7 [0, 0, 0, 0, 0, 0, 0, 0, 0, 0, 0, 0] [0, 0, 0, 0, 0, 0, 0, 0, 0, 0, 0, 0] x.l y.l [(5, .pointer (some ⟨0, 0, none⟩)), (6, .pointer (some ⟨0, 0, none⟩)), (7, nv 6 a.l), (8, nv 6 x.l), (9, nv 6 b.l), (10, nv 6 y.l)] (by kernel_rfl) (by kernel_rfl) (by kernel_rfl) (by kernel_rfl) rfl (by simp only [putAll, List.setIfInBounds_toArray, List.set_cons_zero, List.set_cons_succ]) rfl rfl rfl rfl ?_ ?_)
  · refine GSteps.cons (gs_val (v := nv 6 a.l) rfl (fun γ => rfl) (fun γ => rfl) (fun γ W' h => ex_loadn (K := 6) (k := 0) (j := 12) (l := a.l) flFp12 rfl (A4.keep h.out) rfl _ rfl) rfl rfl rfl rfl) ?_
    refine GSteps.cons (gs_call (v := nv 6 x.l) rfl (fun γ => rfl) (fun γ => rfl) (fun γ W' => ex_call (vs := [nv 6 a.l]) rfl Tryz.call4 rfl) (fun W' h => r7Clean_q ha hx _) rfl rfl rfl rfl) ?_
    refine GSteps.cons (gs_val (v := nv 6 b.l) rfl (fun γ => rfl) (fun γ => rfl) (fun γ W' h => ex_loadn (K := 6) (k := 0) (j := 12) (l := b.l) flFp12 rfl (N3.keep h.out) rfl _ rfl) rfl rfl rfl rfl) ?_
    refine GSteps.cons (gs_call (v := nv 6 y.l) rfl (fun γ => rfl) (fun γ => rfl) (fun γ W' => ex_call (vs := [nv 6 b.l]) rfl Tryz.call4 rfl) (fun W' h => r7Clean_q hb hy _) rfl rfl rfl rfl) ?_
    refine GSteps.cons (gs_new1 (fun γ => rfl) (fun γ n => rfl) (fun γ W' => ex_alloc zFp12) rfl rfl rfl rfl (by kernel_rfl)) ?_
    refine GSteps.cons (gs_new2 (fun γ => rfl) (fun γ n => rfl) (fun γ W' => ex_alloc zFp12) rfl rfl rfl rfl (by kernel_rfl)) ?_
    refine GSteps.cons (gs_store1 rfl (fun γ => rfl) rfl (fun γ W' hA => ex_storen (K := 6) (l := [0, 0, 0, 0, 0, 0, 0, 0, 0, 0, 0, 0]) (m := x.l) flFp12 rfl rfl hA rfl) rfl rfl rfl rfl rfl (by kernel_rfl) (by kernel_rfl)) ?_
    refine GSteps.cons (gs_store2 rfl (fun γ => rfl) rfl (fun γ W' hA => ex_storen (K := 6) (l := [0, 0, 0, 0, 0, 0, 0, 0, 0, 0, 0, 0]) (m := y.l) flFp12 rfl rfl hA rfl) rfl rfl rfl rfl rfl (by kernel_rfl) (by kernel_rfl)) ?_
    exact GSteps.nil
  intro g7 h7 w7 hb7 le7 lf7 ne7 N7 M7
  refine then_n ?_
  have A8 := A4.keep hb7.out
  have A9 := N3.keep hb7.out
  have HB10 := below_then HB5 hb7.out
  refine wp_seq (wp_region_p (F := ⟨#[nv 6 a.l, nv 6 b.l, .pointer (some ⟨w.heap.size, 0, none⟩), .pointer (some ⟨w1.heap.size, 0, none⟩), .bool true, .pointer (some ⟨g7, 0, none⟩), .pointer (some ⟨h7, 0, none⟩), nv 6 a.l, nv 6 x.l, nv 6 b.l, nv 6 y.l, .bool true, .bool true, nv 6 a.l, nv 6 b.l, nv 6 m.l, nv 6 x.l, nv 6 y.l, nv 6 m.l, .bool true, .bool true, .bool true, nv 6 x.l, nv 6 a.l, nv 6 u.l, .bool true, .bool true], []⟩) (S := Bel w7) [(11, .bool true), (12, .bool true), (13, nv 6 a.l), (14, nv 6 b.l), (15, nv 6 m.l), (16, nv 6 x.l), (17, nv 6 y.l), (18, nv 6 m.l), (19, .bool true), (20, .bool true), (21, .bool true), (22, nv 6 x.l), (23, nv 6 a.l), (24, nv 6 u.l), (25, .bool true), (26, .bool true), (4, .bool true)] (by kernel_rfl) (by kernel_rfl) (by kernel_rfl) (by kernel_rfl) rfl (by simp only [putAll, List.setIfInBounds_toArray, List.set_cons_zero, List.set_cons_succ]) (Bel.start _) ?_ ?_)
  · refine PlanSteps.cons (ps_call (v := .bool true) rfl rfl rfl (fun W' => ex_call (vs := []) rfl Tryz.call5 rfl) (fun W' h => fullalive_w _)) ?_
    refine PlanSteps.cons (ps_val (v := .bool true) rfl rfl rfl (fun W' h => ex_move _)) ?_
    refine PlanSteps.cons (ps_val (v := nv 6 a.l) rfl rfl rfl (fun W' h => ex_loadn (K := 6) (k := 0) (j := 12) (l := a.l) flFp12 rfl (A8.keep h.out) rfl _ rfl)) ?_
    refine PlanSteps.cons (ps_val (v := nv 6 b.l) rfl rfl rfl (fun W' h => ex_loadn (K := 6) (k := 0) (j := 12) (l := b.l) flFp12 rfl (A9.keep h.out) rfl _ rfl)) ?_
    refine PlanSteps.cons (ps_call (v := nv 6 m.l) rfl rfl rfl (fun W' => ex_call (vs := [nv 6 a.l, nv 6 b.l]) rfl Tryz.call6 rfl) (fun W' h => fullMul_q ha hb hm _)) ?_
    refine PlanSteps.cons (ps_val (v := nv 6 x.l) rfl rfl rfl (fun W' h => ex_loadn (K := 6) (k := 0) (j := 12) (l := x.l) flFp12 rfl (N7.keep h.out) rfl _ rfl)) ?_
    refine PlanSteps.cons (ps_val (v := nv 6 y.l) rfl rfl rfl (fun W' h => ex_loadn (K := 6) (k := 0) (j := 12) (l := y.l) flFp12 rfl (M7.keep h.out) rfl _ rfl)) ?_
    refine PlanSteps.cons (ps_call (v := nv 6 m.l) rfl rfl rfl (fun W' => ex_call (vs := [nv 6 x.l, nv 6 y.l]) rfl Tryz.call7 rfl) (fun W' h => r7Mul_q hx hy hm _)) ?_
    refine PlanSteps.cons (ps_val (v := .bool true) rfl rfl rfl (fun W' h => ex_eqt (K := 6) (l := m.l) eqFp12 rfl rfl rfl rfl)) ?_
    refine PlanSteps.cons (ps_val (v := .bool true) rfl rfl rfl (fun W' h => ex_pick (r := true) rfl)) ?_
    refine PlanSteps.cons (ps_val (v := .bool true) rfl rfl rfl (fun W' h => ex_move _)) ?_
    refine PlanSteps.cons (ps_val (v := nv 6 x.l) rfl rfl rfl (fun W' h => ex_loadn (K := 6) (k := 0) (j := 12) (l := x.l) flFp12 rfl (N7.keep h.out) rfl _ rfl)) ?_
    refine PlanSteps.cons (ps_val (v := nv 6 a.l) rfl rfl rfl (fun W' h => ex_loadn (K := 6) (k := 0) (j := 12) (l := a.l) flFp12 rfl (A8.keep h.out) rfl _ rfl)) ?_
    refine PlanSteps.cons (ps_call (v := nv 6 u.l) rfl rfl rfl (fun W' => ex_call (vs := [nv 6 a.l]) rfl Tryz.call9 rfl) (fun W' h => hI _)) ?_
    refine PlanSteps.cons (ps_call (v := .bool true) rfl rfl rfl (fun W' => ex_call (vs := [nv 6 x.l, nv 6 u.l]) rfl Tryz.call8 rfl) (fun W' h => HC _)) ?_
    refine PlanSteps.cons (ps_val (v := .bool true) rfl rfl rfl (fun W' h => ex_pick (r := true) rfl)) ?_
    refine PlanSteps.cons (ps_val (v := .bool true) rfl rfl rfl (fun W' h => ex_assign _)) ?_
    exact PlanSteps.nil
  intro w11 hb11
  refine then_n ?_
  have A12 := A8.keep hb11.out
  have A13 := A9.keep hb11.out
  have A14 := N7.keep hb11.out
  have A15 := M7.keep hb11.out
  have HB16 := below_then HB10 hb11.out
  exact wp_ret (bodyPost_ret (ret_tmp Tryz.results3 rfl) rfl ⟨rfl, HB16⟩)

end Go.Proofs.YtodabjelnllkgaaGreat

/- What is proved here: the law SextMuls. -/
import Derived.Test.YtpjkcdkhfjcojaaSext1
namespace Go.Proofs.Ytpjkcdkhfjcojaa
open Go.RowKit

set_option maxRecDepth 20000 in
set_option maxHeartbeats 4000000 in
theorem r6Inv_zero (w : World) :
    Calls Try.prog 19 #[nv 6 [0, 0, 0, 0, 0, 0], nv 6 [0, 0, 0, 0, 0, 0]] w (Is (.bool true) w) := by
  go_enter Try.func19, Try.ntmps19
  refine seq_lit ?_
  refine sq_new (a' := ⟨#[nv 6 [0, 0, 0, 0, 0, 0], nv 6 [0, 0, 0, 0, 0, 0], .pointer (some ⟨w.heap.size, 0, none⟩), undef, undef, undef, undef, undef, undef, undef, undef, undef, undef, undef, undef, undef, undef, undef, undef, undef, undef, undef, undef, undef], []⟩) (xs := rows 6 [0, 0, 0, 0, 0, 0]) rfl rfl (ex_boxn (K := 6) (l := [0, 0, 0, 0, 0, 0]) rfl) ?_
  intro w1 N1 hb1
  have HB2 := below_then (Below.refl w.heap.size w) hb1
  refine sq_new (a' := ⟨#[nv 6 [0, 0, 0, 0, 0, 0], nv 6 [0, 0, 0, 0, 0, 0], .pointer (some ⟨w.heap.size, 0, none⟩), .pointer (some ⟨w1.heap.size, 0, none⟩), undef, undef, undef, undef, undef, undef, undef, undef, undef, undef, undef, undef, undef, undef, undef, undef, undef, undef, undef, undef], []⟩) (xs := rows 6 [0, 0, 0, 0, 0, 0]) rfl rfl (ex_boxn (K := 6) (l := [0, 0, 0, 0, 0, 0]) rfl) ?_
  intro w3 N3 hb3
  have A4 := N1.keep hb3
  have HB5 := below_then HB2 hb3
  refine sq_val (a' := ⟨#[nv 6 [0, 0, 0, 0, 0, 0], nv 6 [0, 0, 0, 0, 0, 0], .pointer (some ⟨w.heap.size, 0, none⟩), .pointer (some ⟨w1.heap.size, 0, none⟩), .bool false, undef, undef, undef, undef, undef, undef, undef, undef, undef, undef, undef, undef, undef, undef, undef, undef, undef, undef, undef], []⟩) (v := .bool false) rfl rfl (ex_assign _) ?_
  refine seq_nil ?_
  refine wp_seq ?_
  refine seq_lit ?_
  refine sq_val (a' := ⟨#[nv 6 [0, 0, 0, 0, 0, 0], nv 6 [0, 0, 0, 0, 0, 0], .pointer (some ⟨w.heap.size, 0, none⟩), .pointer (some ⟨w1.heap.size, 0, none⟩), .bool false, nv 6 [0, 0, 0, 0, 0, 0], undef, undef, undef, undef, undef, undef, undef, undef, undef, undef, undef, undef, undef, undef, undef, undef, undef, undef], []⟩) (v := nv 6 [0, 0, 0, 0, 0, 0]) rfl rfl (ex_loadn (K := 6) (k := 0) (j := 6) (l := [0, 0, 0, 0, 0, 0]) flFp6 rfl A4 rfl _ rfl) ?_
  refine sq_val (a' := ⟨#[nv 6 [0, 0, 0, 0, 0, 0], nv 6 [0, 0, 0, 0, 0, 0], .pointer (some ⟨w.heap.size, 0, none⟩), .pointer (some ⟨w1.heap.size, 0, none⟩), .bool false, nv 6 [0, 0, 0, 0, 0, 0], nv 6 [0, 0, 0, 0, 0, 0], undef, undef, undef, undef, undef, undef, undef, undef, undef, undef, undef, undef, undef, undef, undef, undef, undef], []⟩) (v := nv 6 [0, 0, 0, 0, 0, 0]) rfl rfl (ex_build stFp6 (vs := []) rfl (bd06)) ?_
  refine sq_val (a' := ⟨#[nv 6 [0, 0, 0, 0, 0, 0], nv 6 [0, 0, 0, 0, 0, 0], .pointer (some ⟨w.heap.size, 0, none⟩), .pointer (some ⟨w1.heap.size, 0, none⟩), .bool false, nv 6 [0, 0, 0, 0, 0, 0], nv 6 [0, 0, 0, 0, 0, 0], .bool true, undef, undef, undef, undef, undef, undef, undef, undef, undef, undef, undef, undef, undef, undef, undef, undef], []⟩) (v := .bool true) rfl rfl (ex_eqt (K := 6) (l := [0, 0, 0, 0, 0, 0]) eqFp6 rfl rfl rfl rfl) ?_
  refine seq_nil ?_
  refine wp_cond_true rfl ?_
  refine seq_lit ?_
  refine sq_val (a' := ⟨#[nv 6 [0, 0, 0, 0, 0, 0], nv 6 [0, 0, 0, 0, 0, 0], .pointer (some ⟨w.heap.size, 0, none⟩), .pointer (some ⟨w1.heap.size, 0, none⟩), .bool false, nv 6 [0, 0, 0, 0, 0, 0], nv 6 [0, 0, 0, 0, 0, 0], .bool true, nv 6 [0, 0, 0, 0, 0, 0], undef, undef, undef, undef, undef, undef, undef, undef, undef, undef, undef, undef, undef, undef, undef], []⟩) (v := nv 6 [0, 0, 0, 0, 0, 0]) rfl rfl (ex_loadn (K := 6) (k := 0) (j := 6) (l := [0, 0, 0, 0, 0, 0]) flFp6 rfl N3 rfl _ rfl) ?_
  refine sq_val (a' := ⟨#[nv 6 [0, 0, 0, 0, 0, 0], nv 6 [0, 0, 0, 0, 0, 0], .pointer (some ⟨w.heap.size, 0, none⟩), .pointer (some ⟨w1.heap.size, 0, none⟩), .bool false, nv 6 [0, 0, 0, 0, 0, 0], nv 6 [0, 0, 0, 0, 0, 0], .bool true, nv 6 [0, 0, 0, 0, 0, 0], nv 6 [0, 0, 0, 0, 0, 0], undef, undef, undef, undef, undef, undef, undef, undef, undef, undef, undef, undef, undef, undef], []⟩) (v := nv 6 [0, 0, 0, 0, 0, 0]) rfl rfl (ex_loadn (K := 6) (k := 0) (j := 6) (l := [0, 0, 0, 0, 0, 0]) flFp6 rfl A4 rfl _ rfl) ?_
  refine sq_val (a' := ⟨#[nv 6 [0, 0, 0, 0, 0, 0], nv 6 [0, 0, 0, 0, 0, 0], .pointer (some ⟨w.heap.size, 0, none⟩), .pointer (some ⟨w1.heap.size, 0, none⟩), .bool false, nv 6 [0, 0, 0, 0, 0, 0], nv 6 [0, 0, 0, 0, 0, 0], .bool true, nv 6 [0, 0, 0, 0, 0, 0], nv 6 [0, 0, 0, 0, 0, 0], .bool true, undef, undef, undef, undef, undef, undef, undef, undef, undef, undef, undef, undef, undef], []⟩) (v := .bool true) rfl rfl (ex_eqt (K := 6) (l := [0, 0, 0, 0, 0, 0]) eqFp6 rfl rfl rfl rfl) ?_
  refine sq_val (a' := ⟨#[nv 6 [0, 0, 0, 0, 0, 0], nv 6 [0, 0, 0, 0, 0, 0], .pointer (some ⟨w.heap.size, 0, none⟩), .pointer (some ⟨w1.heap.size, 0, none⟩), .bool true, nv 6 [0, 0, 0, 0, 0, 0], nv 6 [0, 0, 0, 0, 0, 0], .bool true, nv 6 [0, 0, 0, 0, 0, 0], nv 6 [0, 0, 0, 0, 0, 0], .bool true, undef, undef, undef, undef, undef, undef, undef, undef, undef, undef, undef, undef, undef], []⟩) (v := .bool true) rfl rfl (ex_assign _) ?_
  refine seq_nil ?_
  exact wp_ret (bodyPost_ret (ret_tmp Try.results19 rfl) rfl ⟨rfl, HB5⟩)

set_option maxRecDepth 20000 in
set_option maxHeartbeats 4000000 in
theorem r6Inv_unit (c0 c1 c2 c3 c4 c5 d0 d1 d2 d3 d4 d5 : Nat) (lc0 : c0 < pN) (lc1 : c1 < pN) (lc2 : c2 < pN) (lc3 : c3 < pN) (lc4 : c4 < pN) (lc5 : c5 < pN) (hne : [c0, c1, c2, c3, c4, c5] ≠ [0, 0, 0, 0, 0, 0]) (hcl : ∀ w, Calls Try.prog 7 #[nv 6 [d0, d1, d2, d3, d4, d5]] w (Is (nv 6 [d0, d1, d2, d3, d4, d5]) w)) (hm : ∀ w, Calls Try.prog 18 #[nv 6 [c0, c1, c2, c3, c4, c5], nv 6 [d0, d1, d2, d3, d4, d5]] w (Is (nv 6 [1, 0, 0, 0, 0, 0]) w)) (w : World) :
    Calls Try.prog 19 #[nv 6 [c0, c1, c2, c3, c4, c5], nv 6 [d0, d1, d2, d3, d4, d5]] w (Is (.bool true) w) := by
  go_enter Try.func19, Try.ntmps19
  refine seq_lit ?_
  refine sq_new (a' := ⟨#[nv 6 [c0, c1, c2, c3, c4, c5], nv 6 [d0, d1, d2, d3, d4, d5], .pointer (some ⟨w.heap.size, 0, none⟩), undef, undef, undef, undef, undef, undef, undef, undef, undef, undef, undef, undef, undef, undef, undef, undef, undef, undef, undef, undef, undef], []⟩) (xs := rows 6 [c0, c1, c2, c3, c4, c5]) rfl rfl (ex_boxn (K := 6) (l := [c0, c1, c2, c3, c4, c5]) rfl) ?_
  intro w1 N1 hb1
  have HB2 := below_then (Below.refl w.heap.size w) hb1
  refine sq_new (a' := ⟨#[nv 6 [c0, c1, c2, c3, c4, c5], nv 6 [d0, d1, d2, d3, d4, d5], .pointer (some ⟨w.heap.size, 0, none⟩), .pointer (some ⟨w1.heap.size, 0, none⟩), undef, undef, undef, undef, undef, undef, undef, undef, undef, undef, undef, undef, undef, undef, undef, undef, undef, undef, undef, undef], []⟩) (xs := rows 6 [d0, d1, d2, d3, d4, d5]) rfl rfl (ex_boxn (K := 6) (l := [d0, d1, d2, d3, d4, d5]) rfl) ?_
  intro w3 N3 hb3
  have A4 := N1.keep hb3
  have HB5 := below_then HB2 hb3
  refine sq_val (a' := ⟨#[nv 6 [c0, c1, c2, c3, c4, c5], nv 6 [d0, d1, d2, d3, d4, d5], .pointer (some ⟨w.heap.size, 0, none⟩), .pointer (some ⟨w1.heap.size, 0, none⟩), .bool false, undef, undef, undef, undef, undef, undef, undef, undef, undef, undef, undef, undef, undef, undef, undef, undef, undef, undef, undef], []⟩) (v := .bool false) rfl rfl (ex_assign _) ?_
  refine seq_nil ?_
  refine wp_seq ?_
  refine seq_lit ?_
  refine sq_val (a' := ⟨#[nv 6 [c0, c1, c2, c3, c4, c5], nv 6 [d0, d1, d2, d3, d4, d5], .pointer (some ⟨w.heap.size, 0, none⟩), .pointer (some ⟨w1.heap.size, 0, none⟩), .bool false, nv 6 [c0, c1, c2, c3, c4, c5], undef, undef, undef, undef, undef, undef, undef, undef, undef, undef, undef, undef, undef, undef, undef, undef, undef, undef], []⟩) (v := nv 6 [c0, c1, c2, c3, c4, c5]) rfl rfl (ex_loadn (K := 6) (k := 0) (j := 6) (l := [c0, c1, c2, c3, c4, c5]) flFp6 rfl A4 rfl _ rfl) ?_
  refine sq_val (a' := ⟨#[nv 6 [c0, c1, c2, c3, c4, c5], nv 6 [d0, d1, d2, d3, d4, d5], .pointer (some ⟨w.heap.size, 0, none⟩), .pointer (some ⟨w1.heap.size, 0, none⟩), .bool false, nv 6 [c0, c1, c2, c3, c4, c5], nv 6 [0, 0, 0, 0, 0, 0], undef, undef, undef, undef, undef, undef, undef, undef, undef, undef, undef, undef, undef, undef, undef, undef, undef], []⟩) (v := nv 6 [0, 0, 0, 0, 0, 0]) rfl rfl (ex_build stFp6 (vs := []) rfl (bd06)) ?_
  refine sq_val (a' := ⟨#[nv 6 [c0, c1, c2, c3, c4, c5], nv 6 [d0, d1, d2, d3, d4, d5], .pointer (some ⟨w.heap.size, 0, none⟩), .pointer (some ⟨w1.heap.size, 0, none⟩), .bool false, nv 6 [c0, c1, c2, c3, c4, c5], nv 6 [0, 0, 0, 0, 0, 0], .bool false, undef, undef, undef, undef, undef, undef, undef, undef, undef, undef, undef, undef, undef, undef, undef, undef], []⟩) (v := .bool false) rfl rfl (ex_eqn (K := 6) (l := [c0, c1, c2, c3, c4, c5]) (m := [0, 0, 0, 0, 0, 0]) eqFp6 rfl rfl rfl rfl rfl (fpB_all6 (Nat.lt_trans lc0 fpM_lt) (Nat.lt_trans lc1 fpM_lt) (Nat.lt_trans lc2 fpM_lt) (Nat.lt_trans lc3 fpM_lt) (Nat.lt_trans lc4 fpM_lt) (Nat.lt_trans lc5 fpM_lt)) (fpB_all6 zero_B zero_B zero_B zero_B zero_B zero_B) rfl false (decide_eq_false hne).symm) ?_
  refine seq_nil ?_
  refine wp_cond_false rfl ?_
  refine wp_skip (then_n ?_)
  refine wp_seq (wp_region_p (F := ⟨#[nv 6 [c0, c1, c2, c3, c4, c5], nv 6 [d0, d1, d2, d3, d4, d5], .pointer (some ⟨w.heap.size, 0, none⟩), .pointer (some ⟨w1.heap.size, 0, none⟩), .bool true, nv 6 [c0, c1, c2, c3, c4, c5], nv 6 [0, 0, 0, 0, 0, 0], .bool false, undef, undef, undef, nv 6 [d0, d1, d2, d3, d4, d5], nv 6 [d0, d1, d2, d3, d4, d5], nv 6 [d0, d1, d2, d3, d4, d5], .bool true, .bool true, nv 6 [c0, c1, c2, c3, c4, c5], nv 6 [d0, d1, d2, d3, d4, d5], nv 6 [1, 0, 0, 0, 0, 0], nv 6 [1], nv 6 [1, 0], nv 6 [1, 0, 0, 0, 0, 0], .bool true, .bool true], []⟩) (S := Bel w3) [(11, nv 6 [d0, d1, d2, d3, d4, d5]), (12, nv 6 [d0, d1, d2, d3, d4, d5]), (13, nv 6 [d0, d1, d2, d3, d4, d5]), (14, .bool true), (15, .bool true), (16, nv 6 [c0, c1, c2, c3, c4, c5]), (17, nv 6 [d0, d1, d2, d3, d4, d5]), (18, nv 6 [1, 0, 0, 0, 0, 0]), (19, nv 6 [1]), (20, nv 6 [1, 0]), (21, nv 6 [1, 0, 0, 0, 0, 0]), (22, .bool true), (23, .bool true), (4, .bool true)] (by kernel_rfl) (by kernel_rfl) (by kernel_rfl) (by kernel_rfl) rfl (by simp only [putAll, List.setIfInBounds_toArray, List.set_cons_zero, List.set_cons_succ]) (Bel.start _) ?_ ?_)
  · refine PlanSteps.cons (ps_val (v := nv 6 [d0, d1, d2, d3, d4, d5]) rfl rfl rfl (fun W' h => ex_loadn (K := 6) (k := 0) (j := 6) (l := [d0, d1, d2, d3, d4, d5]) flFp6 rfl (N3.keep h.out) rfl _ rfl)) ?_
    refine PlanSteps.cons (ps_call (v := nv 6 [d0, d1, d2, d3, d4, d5]) rfl rfl rfl (fun W' => ex_call (vs := [nv 6 [d0, d1, d2, d3, d4, d5]]) rfl Try.call7 rfl) (fun W' h => hcl _)) ?_
    refine PlanSteps.cons (ps_val (v := nv 6 [d0, d1, d2, d3, d4, d5]) rfl rfl rfl (fun W' h => ex_loadn (K := 6) (k := 0) (j := 6) (l := [d0, d1, d2, d3, d4, d5]) flFp6 rfl (N3.keep h.out) rfl _ rfl)) ?_
    refine PlanSteps.cons (ps_val (v := .bool true) rfl rfl rfl (fun W' h => ex_eqt (K := 6) (l := [d0, d1, d2, d3, d4, d5]) eqFp6 rfl rfl rfl rfl)) ?_
    refine PlanSteps.cons (ps_val (v := .bool true) rfl rfl rfl (fun W' h => ex_move _)) ?_
    refine PlanSteps.cons (ps_val (v := nv 6 [c0, c1, c2, c3, c4, c5]) rfl rfl rfl (fun W' h => ex_loadn (K := 6) (k := 0) (j := 6) (l := [c0, c1, c2, c3, c4, c5]) flFp6 rfl (A4.keep h.out) rfl _ rfl)) ?_
    refine PlanSteps.cons (ps_val (v := nv 6 [d0, d1, d2, d3, d4, d5]) rfl rfl rfl (fun W' h => ex_loadn (K := 6) (k := 0) (j := 6) (l := [d0, d1, d2, d3, d4, d5]) flFp6 rfl (N3.keep h.out) rfl _ rfl)) ?_
    refine PlanSteps.cons (ps_call (v := nv 6 [1, 0, 0, 0, 0, 0]) rfl rfl rfl (fun W' => ex_call (vs := [nv 6 [c0, c1, c2, c3, c4, c5], nv 6 [d0, d1, d2, d3, d4, d5]]) rfl Try.call18 rfl) (fun W' h => hm _)) ?_
    refine PlanSteps.cons (ps_val (v := nv 6 [1]) rfl rfl rfl (fun W' h => ex_one rfl)) ?_
    refine PlanSteps.cons (ps_val (v := nv 6 [1, 0]) rfl rfl rfl (fun W' h => ex_build stFp2 (vs := [(0, nv 6 [1])]) rfl (bdA 1))) ?_
    refine PlanSteps.cons (ps_val (v := nv 6 [1, 0, 0, 0, 0, 0]) rfl rfl rfl (fun W' h => ex_build stFp6 (vs := [(0, nv 6 [1, 0])]) rfl (bd6A 1 0))) ?_
    refine PlanSteps.cons (ps_val (v := .bool true) rfl rfl rfl (fun W' h => ex_eqt (K := 6) (l := [1, 0, 0, 0, 0, 0]) eqFp6 rfl rfl rfl rfl)) ?_
    refine PlanSteps.cons (ps_val (v := .bool true) rfl rfl rfl (fun W' h => ex_pick (r := true) rfl)) ?_
    refine PlanSteps.cons (ps_val (v := .bool true) rfl rfl rfl (fun W' h => ex_assign _)) ?_
    exact PlanSteps.nil
  intro w7 hb7
  refine then_n ?_
  have A8 := A4.keep hb7.out
  have A9 := N3.keep hb7.out
  have HB10 := below_then HB5 hb7.out
  exact wp_ret (bodyPost_ret (ret_tmp Try.results19 rfl) rfl ⟨rfl, HB10⟩)

set_option maxRecDepth 20000 in
set_option maxHeartbeats 4000000 in
theorem sextMuls_v (a0 a1 a2 a3 a4 a5 b0 b1 b2 b3 b4 b5 : Nat) (w : World) (la0 : a0 < fpB) (la1 : a1 < fpB) (la2 : a2 < fpB) (la3 : a3 < fpB) (la4 : a4 < fpB) (la5 : a5 < fpB) (lb0 : b0 < fpB) (lb1 : b1 < fpB) (lb2 : b2 < fpB) (lb3 : b3 < fpB) (lb4 : b4 < fpB) (lb5 : b5 < fpB) :
    Calls Try.prog 4 #[nv 6 [a0, a1, a2, a3, a4, a5], nv 6 [b0, b1, b2, b3, b4, b5]] w (Is (.bool true) w) := by
  obtain ⟨x0, ra0⟩ : ∃ z : Int, Rep a0 z := ⟨_, rep_self a0⟩
  obtain ⟨x1, ra1⟩ : ∃ z : Int, Rep a1 z := ⟨_, rep_self a1⟩
  obtain ⟨x2, ra2⟩ : ∃ z : Int, Rep a2 z := ⟨_, rep_self a2⟩
  obtain ⟨x3, ra3⟩ : ∃ z : Int, Rep a3 z := ⟨_, rep_self a3⟩
  obtain ⟨x4, ra4⟩ : ∃ z : Int, Rep a4 z := ⟨_, rep_self a4⟩
  obtain ⟨x5, ra5⟩ : ∃ z : Int, Rep a5 z := ⟨_, rep_self a5⟩
  obtain ⟨y0, rb0⟩ : ∃ z : Int, Rep b0 z := ⟨_, rep_self b0⟩
  obtain ⟨y1, rb1⟩ : ∃ z : Int, Rep b1 z := ⟨_, rep_self b1⟩
  obtain ⟨y2, rb2⟩ : ∃ z : Int, Rep b2 z := ⟨_, rep_self b2⟩
  obtain ⟨y3, rb3⟩ : ∃ z : Int, Rep b3 z := ⟨_, rep_self b3⟩
  obtain ⟨y4, rb4⟩ : ∃ z : Int, Rep b4 z := ⟨_, rep_self b4⟩
  obtain ⟨y5, rb5⟩ : ∃ z : Int, Rep b5 z := ⟨_, rep_self b5⟩
  obtain ⟨o0, eo0⟩ : ∃ z : Int, z = x0 * x0 + x2 * x5 + x3 * x4 + x3 * x5 - x1 * x1 - x2 * x4 := ⟨_, rfl⟩
  obtain ⟨o1, eo1⟩ : ∃ z : Int, z = 2 * x0 * x1 + x3 * x5 - x2 * x4 - x2 * x5 - x3 * x4 := ⟨_, rfl⟩
  obtain ⟨o2, eo2⟩ : ∃ z : Int, z = x1 * x3 + x4 * x4 - x0 * x2 - 2 * x4 * x5 - x5 * x5 := ⟨_, rfl⟩
  obtain ⟨o3, eo3⟩ : ∃ z : Int, z = x4 * x4 + 2 * x4 * x5 - x0 * x3 - x1 * x2 - x5 * x5 := ⟨_, rfl⟩
  obtain ⟨o4, eo4⟩ : ∃ z : Int, z = x1 * x5 + x2 * x2 - x0 * x4 - x3 * x3 := ⟨_, rfl⟩
  obtain ⟨o5, eo5⟩ : ∃ z : Int, z = 2 * x2 * x3 - x0 * x5 - x1 * x4 := ⟨_, rfl⟩
  obtain ⟨n0, en0⟩ : ∃ z : Int, z = x0 * o0 + x2 * o4 + x4 * o2 - x1 * o1 - x2 * o5 - x3 * o4 - x3 * o5 - x4 * o3 - x5 * o2 - x5 * o3 := ⟨_, rfl⟩
  obtain ⟨m0, bm0, rm0⟩ := rep_of n0
  obtain ⟨n1, en1⟩ : ∃ z : Int, z = x0 * o1 + x1 * o0 + x2 * o4 + x2 * o5 + x3 * o4 + x4 * o2 + x4 * o3 + x5 * o2 - x3 * o5 - x5 * o3 := ⟨_, rfl⟩
  obtain ⟨m1, bm1, rm1⟩ := rep_of n1
  obtain ⟨j, hj⟩ : ∃ z, z = pInv (pAdd (pMul m0 m0) (pMul m1 m1)) := ⟨_, rfl⟩
  obtain ⟨i, rj⟩ : ∃ z : Int, Rep j z := ⟨_, rep_self j⟩
  obtain ⟨u0, bu0, ru0⟩ := rep_of (o0 * (n0 * i) - o1 * (-n1 * i))
  obtain ⟨u1, bu1, ru1⟩ := rep_of (o0 * (-n1 * i) + o1 * (n0 * i))
  obtain ⟨u2, bu2, ru2⟩ := rep_of (o2 * (n0 * i) - o3 * (-n1 * i))
  obtain ⟨u3, bu3, ru3⟩ := rep_of (o2 * (-n1 * i) + o3 * (n0 * i))
  obtain ⟨u4, bu4, ru4⟩ := rep_of (o4 * (n0 * i) - o5 * (-n1 * i))
  obtain ⟨u5, bu5, ru5⟩ := rep_of (o4 * (-n1 * i) + o5 * (n0 * i))
  obtain ⟨z1, bz1, rz1⟩ := rep_of (x0)
  obtain ⟨z2, bz2, rz2⟩ := rep_of (x1)
  obtain ⟨z3, bz3, rz3⟩ := rep_of (x2)
  obtain ⟨z4, bz4, rz4⟩ := rep_of (x3)
  obtain ⟨z5, bz5, rz5⟩ := rep_of (x4)
  obtain ⟨z6, bz6, rz6⟩ := rep_of (x5)
  have HC : ∀ W, Calls Try.prog 19 #[nv 6 [z1, z2, z3, z4, z5, z6], nv 6 [u0, u1, u2, u3, u4, u5]] W (Is (.bool true) W) := fun W => by
    by_cases hz : z1 = 0 ∧ z2 = 0 ∧ z3 = 0 ∧ z4 = 0 ∧ z5 = 0 ∧ z6 = 0
    · obtain ⟨hz0, hz1, hz2, hz3, hz4, hz5⟩ := hz
      have zx0 : Zr x0 := by have h := rz1; rw [hz0] at h; exact h
      have zx1 : Zr x1 := by have h := rz2; rw [hz1] at h; exact h
      have zx2 : Zr x2 := by have h := rz3; rw [hz2] at h; exact h
      have zx3 : Zr x3 := by have h := rz4; rw [hz3] at h; exact h
      have zx4 : Zr x4 := by have h := rz5; rw [hz4] at h; exact h
      have zx5 : Zr x5 := by have h := rz6; rw [hz5] at h; exact h
      obtain ⟨Z0, Z1, Z2, Z3, Z4, Z5⟩ := sx_zero (n0 := n0) (n1 := n1) (i := i) eo0 eo1 eo2 eo3 eo4 eo5 zx0 zx1 zx2 zx3 zx4 zx5
      have e0 : u0 = 0 := zr_of bu0 ru0 Z0
      have e1 : u1 = 0 := zr_of bu1 ru1 Z1
      have e2 : u2 = 0 := zr_of bu2 ru2 Z2
      have e3 : u3 = 0 := zr_of bu3 ru3 Z3
      have e4 : u4 = 0 := zr_of bu4 ru4 Z4
      have e5 : u5 = 0 := zr_of bu5 ru5 Z5
      rw [hz0, hz1, hz2, hz3, hz4, hz5, e0, e1, e2, e3, e4, e5]
      exact r6Inv_zero W
    · have hne : ¬ (pCl m0 = 0 ∧ pCl m1 = 0) := fun h => by
        rw [pCl_of bm0, pCl_of bm1] at h
        have h0 : Zr n0 := by have q := rm0; rw [h.1] at q; exact q
        have h1 : Zr n1 := by have q := rm1; rw [h.2] at q; exact q
        obtain ⟨⟨q0, q1⟩, ⟨q2, q3⟩, q4, q5⟩ := sx_norm eo0 eo1 eo2 eo3 eo4 eo5 en0 en1 h0 h1
        exact hz ⟨zr_of bz1 rz1 q0, zr_of bz2 rz2 q1, zr_of bz3 rz3 q2, zr_of bz4 rz4 q3, zr_of bz5 rz5 q4, zr_of bz6 rz6 q5⟩
      obtain ⟨HI0, HI1, HI2, HI3, HI4, HI5⟩ := sx_unit eo0 eo1 eo2 eo3 eo4 eo5 en0 en1 (norm_inv_r rm0 rm1 hj rj hne)
      exact r6Inv_unit z1 z2 z3 z4 z5 z6 u0 u1 u2 u3 u4 u5 bz1 bz2 bz3 bz4 bz5 bz6 (fun h => hz (by simpa using h)) (fun w => r6Clean_r ru0 ru1 ru2 ru3 ru4 ru5 (Nat.lt_trans bu0 fpM_lt) (Nat.lt_trans bu1 fpM_lt) (Nat.lt_trans bu2 fpM_lt) (Nat.lt_trans bu3 fpM_lt) (Nat.lt_trans bu4 fpM_lt) (Nat.lt_trans bu5 fpM_lt) bu0 bu1 bu2 bu3 bu4 bu5 ru0 ru1 ru2 ru3 ru4 ru5 w) (fun w => r6Mul_r rz1 rz2 rz3 rz4 rz5 rz6 ru0 ru1 ru2 ru3 ru4 ru5 bz1 bz2 bz3 bz4 bz5 bz6 bu0 bu1 bu2 bu3 bu4 bu5 one_P zero_P zero_P zero_P zero_P zero_P HI0 HI1 HI2 HI3 HI4 HI5 w) W
  obtain ⟨z7, bz7, rz7⟩ := rep_of (y0)
  obtain ⟨z8, bz8, rz8⟩ := rep_of (y1)
  obtain ⟨z9, bz9, rz9⟩ := rep_of (y2)
  obtain ⟨z10, bz10, rz10⟩ := rep_of (y3)
  obtain ⟨z11, bz11, rz11⟩ := rep_of (y4)
  obtain ⟨z12, bz12, rz12⟩ := rep_of (y5)
  obtain ⟨z13, bz13, rz13⟩ := rep_of (x0 * y0 + x2 * y4 + x4 * y2 - x1 * y1 - x2 * y5 - x3 * y4 - x3 * y5 - x4 * y3 - x5 * y2 - x5 * y3)
  obtain ⟨z14, bz14, rz14⟩ := rep_of (x0 * y1 + x1 * y0 + x2 * y4 + x2 * y5 + x3 * y4 + x4 * y2 + x4 * y3 + x5 * y2 - x3 * y5 - x5 * y3)
  obtain ⟨z15, bz15, rz15⟩ := rep_of (x0 * y2 + x2 * y0 + x4 * y4 - x1 * y3 - x3 * y1 - x4 * y5 - x5 * y4 - x5 * y5)
  obtain ⟨z16, bz16, rz16⟩ := rep_of (x0 * y3 + x1 * y2 + x2 * y1 + x3 * y0 + x4 * y4 + x4 * y5 + x5 * y4 - x5 * y5)
  obtain ⟨z17, bz17, rz17⟩ := rep_of (x0 * y4 + x2 * y2 + x4 * y0 - x1 * y5 - x3 * y3 - x5 * y1)
  obtain ⟨z18, bz18, rz18⟩ := rep_of (x0 * y5 + x1 * y4 + x2 * y3 + x3 * y2 + x4 * y1 + x5 * y0)
  go_enter Try.func4, Try.ntmps4
  refine seq_lit ?_
  refine sq_new (a' := ⟨#[nv 6 [a0, a1, a2, a3, a4, a5], nv 6 [b0, b1, b2, b3, b4, b5], .pointer (some ⟨w.heap.size, 0, none⟩), undef, undef, undef, undef, undef, undef, undef, undef, undef, undef, undef, undef, undef, undef, undef, undef, undef, undef, undef, undef, undef, undef, undef, undef], []⟩) (xs := rows 6 [a0, a1, a2, a3, a4, a5]) rfl rfl (ex_boxn (K := 6) (l := [a0, a1, a2, a3, a4, a5]) rfl) ?_
  intro w1 N1 hb1
  have HB2 := below_then (Below.refl w.heap.size w) hb1
  refine sq_new (a' := ⟨#[nv 6 [a0, a1, a2, a3, a4, a5], nv 6 [b0, b1, b2, b3, b4, b5], .pointer (some ⟨w.heap.size, 0, none⟩), .pointer (some ⟨w1.heap.size, 0, none⟩), undef, undef, undef, undef, undef, undef, undef, undef, undef, undef, undef, undef, undef, undef, undef, undef, undef, undef, undef, undef, undef, undef, undef], []⟩) (xs := rows 6 [b0, b1, b2, b3, b4, b5]) rfl rfl (ex_boxn (K := 6) (l := [b0, b1, b2, b3, b4, b5]) rfl) ?_
  intro w3 N3 hb3
  have A4 := N1.keep hb3
  have HB5 := below_then HB2 hb3
  refine sq_val (a' := ⟨#[nv 6 [a0, a1, a2, a3, a4, a5], nv 6 [b0, b1, b2, b3, b4, b5], .pointer (some ⟨w.heap.size, 0, none⟩), .pointer (some ⟨w1.heap.size, 0, none⟩), .bool false, undef, undef, undef, undef, undef, undef, undef, undef, undef, undef, undef, undef, undef, undef, undef, undef, undef, undef, undef, undef, undef, undef], []⟩) (v := .bool false) rfl rfl (ex_assign _) ?_
  refine seq_nil ?_
  refine wp_seq (wp_region_two (F := fun γ => ⟨#[nv 6 [a0, a1, a2, a3, a4, a5], nv 6 [b0, b1, b2, b3, b4, b5], .pointer (some ⟨w.heap.size, 0, none⟩), .pointer (some ⟨w1.heap.size, 0, none⟩), .bool false, .pointer (some ⟨γ.1, 0, none⟩), .pointer (some ⟨γ.2, 0, none⟩), nv 6 [a0, a1, a2, a3, a4, a5], nv 6 [z1, z2, z3, z4, z5, z6], nv 6 [b0, b1, b2, b3, b4, b5], nv 6 [z7, z8, z9, z10, z11, z12], undef, undef, undef, undef, undef, undef, undef, undef, undef, undef, undef, undef, undef, undef, undef, undef], []⟩) 28 28 6 4 5 6 7 [0, 0, 0, 0, 0, 0] [0, 0, 0, 0, 0, 0] [z1, z2, z3, z4, z5, z6] [z7, z8, z9, z10, z11, z12] [(5, .pointer (some ⟨0, 0, none⟩)), (6, .pointer (some ⟨0, 0, none⟩)), (7, nv 6 [a0, a1, a2, a3, a4, a5]), (8, nv 6 [z1, z2, z3, z4, z5, z6]), (9, nv 6 [b0, b1, b2, b3, b4, b5]), (10, nv 6 [z7, z8, z9, z10, z11, z12])] (by kernel_rfl) (by kernel_rfl) (by kernel_rfl) (by kernel_rfl) rfl (by simp only [putAll, List.setIfInBounds_toArray, List.set_cons_zero, List.set_cons_succ]) rfl rfl rfl rfl ?_ ?_)
  · refine GSteps.cons (gs_val (v := nv 6 [a0, a1, a2, a3, a4, a5]) rfl (fun γ => rfl) (fun γ => rfl) (fun γ W' h => ex_loadn (K := 6) (k := 0) (j := 6) (l := [a0, a1, a2, a3, a4, a5]) flFp6 rfl (A4.keep h.out) rfl _ rfl) rfl rfl rfl rfl) ?_
    refine GSteps.cons (gs_call (v := nv 6 [z1, z2, z3, z4, z5, z6]) rfl (fun γ => rfl) (fun γ => rfl) (fun γ W' => ex_call (vs := [nv 6 [a0, a1, a2, a3, a4, a5]]) rfl Try.call7 rfl) (fun W' h => r6Clean_r ra0 ra1 ra2 ra3 ra4 ra5 la0 la1 la2 la3 la4 la5 bz1 bz2 bz3 bz4 bz5 bz6 rz1 rz2 rz3 rz4 rz5 rz6 _) rfl rfl rfl rfl) ?_
    refine GSteps.cons (gs_val (v := nv 6 [b0, b1, b2, b3, b4, b5]) rfl (fun γ => rfl) (fun γ => rfl) (fun γ W' h => ex_loadn (K := 6) (k := 0) (j := 6) (l := [b0, b1, b2, b3, b4, b5]) flFp6 rfl (N3.keep h.out) rfl _ rfl) rfl rfl rfl rfl) ?_
    refine GSteps.cons (gs_call (v := nv 6 [z7, z8, z9, z10, z11, z12]) rfl (fun γ => rfl) (fun γ => rfl) (fun γ W' => ex_call (vs := [nv 6 [b0, b1, b2, b3, b4, b5]]) rfl Try.call7 rfl) (fun W' h => r6Clean_r rb0 rb1 rb2 rb3 rb4 rb5 lb0 lb1 lb2 lb3 lb4 lb5 bz7 bz8 bz9 bz10 bz11 bz12 rz7 rz8 rz9 rz10 rz11 rz12 _) rfl rfl rfl rfl) ?_
    refine GSteps.cons (gs_new1 (fun γ => rfl) (fun γ n => rfl) (fun γ W' => ex_alloc zFp6) rfl rfl rfl rfl (by kernel_rfl)) ?_
    refine GSteps.cons (gs_new2 (fun γ => rfl) (fun γ n => rfl) (fun γ W' => ex_alloc zFp6) rfl rfl rfl rfl (by kernel_rfl)) ?_
    refine GSteps.cons (gs_store1 rfl (fun γ => rfl) rfl (fun γ W' hA => ex_storen (K := 6) (l := [0, 0, 0, 0, 0, 0]) (m := [z1, z2, z3, z4, z5, z6]) flFp6 rfl rfl hA rfl) rfl rfl rfl rfl rfl (by kernel_rfl) (by kernel_rfl)) ?_
    refine GSteps.cons (gs_store2 rfl (fun γ => rfl) rfl (fun γ W' hA => ex_storen (K := 6) (l := [0, 0, 0, 0, 0, 0]) (m := [z7, z8, z9, z10, z11, z12]) flFp6 rfl rfl hA rfl) rfl rfl rfl rfl rfl (by kernel_rfl) (by kernel_rfl)) ?_
    exact GSteps.nil
  intro g7 h7 w7 hb7 le7 lf7 ne7 N7 M7
  refine then_n ?_
  have A8 := A4.keep hb7.out
  have A9 := N3.keep hb7.out
  have HB10 := below_then HB5 hb7.out
  refine wp_seq (wp_region_p (F := ⟨#[nv 6 [a0, a1, a2, a3, a4, a5], nv 6 [b0, b1, b2, b3, b4, b5], .pointer (some ⟨w.heap.size, 0, none⟩), .pointer (some ⟨w1.heap.size, 0, none⟩), .bool true, .pointer (some ⟨g7, 0, none⟩), .pointer (some ⟨h7, 0, none⟩), nv 6 [a0, a1, a2, a3, a4, a5], nv 6 [z1, z2, z3, z4, z5, z6], nv 6 [b0, b1, b2, b3, b4, b5], nv 6 [z7, z8, z9, z10, z11, z12], .bool true, .bool true, nv 6 [a0, a1, a2, a3, a4, a5], nv 6 [b0, b1, b2, b3, b4, b5], nv 6 [z13, z14, z15, z16, z17, z18], nv 6 [z1, z2, z3, z4, z5, z6], nv 6 [z7, z8, z9, z10, z11, z12], nv 6 [z13, z14, z15, z16, z17, z18], .bool true, .bool true, .bool true, nv 6 [z1, z2, z3, z4, z5, z6], nv 6 [a0, a1, a2, a3, a4, a5], nv 6 [u0, u1, u2, u3, u4, u5], .bool true, .bool true], []⟩) (S := Bel w7) [(11, .bool true), (12, .bool true), (13, nv 6 [a0, a1, a2, a3, a4, a5]), (14, nv 6 [b0, b1, b2, b3, b4, b5]), (15, nv 6 [z13, z14, z15, z16, z17, z18]), (16, nv 6 [z1, z2, z3, z4, z5, z6]), (17, nv 6 [z7, z8, z9, z10, z11, z12]), (18, nv 6 [z13, z14, z15, z16, z17, z18]), (19, .bool true), (20, .bool true), (21, .bool true), (22, nv 6 [z1, z2, z3, z4, z5, z6]), (23, nv 6 [a0, a1, a2, a3, a4, a5]), (24, nv 6 [u0, u1, u2, u3, u4, u5]), (25, .bool true), (26, .bool true), (4, .bool true)] (by kernel_rfl) (by kernel_rfl) (by kernel_rfl) (by kernel_rfl) rfl (by simp only [putAll, List.setIfInBounds_toArray, List.set_cons_zero, List.set_cons_succ]) (Bel.start _) ?_ ?_)
  · refine PlanSteps.cons (ps_call (v := .bool true) rfl rfl rfl (fun W' => ex_call (vs := []) rfl Try.call8 rfl) (fun W' h => sextalive_w _)) ?_
    refine PlanSteps.cons (ps_val (v := .bool true) rfl rfl rfl (fun W' h => ex_move _)) ?_
    refine PlanSteps.cons (ps_val (v := nv 6 [a0, a1, a2, a3, a4, a5]) rfl rfl rfl (fun W' h => ex_loadn (K := 6) (k := 0) (j := 6) (l := [a0, a1, a2, a3, a4, a5]) flFp6 rfl (A8.keep h.out) rfl _ rfl)) ?_
    refine PlanSteps.cons (ps_val (v := nv 6 [b0, b1, b2, b3, b4, b5]) rfl rfl rfl (fun W' h => ex_loadn (K := 6) (k := 0) (j := 6) (l := [b0, b1, b2, b3, b4, b5]) flFp6 rfl (A9.keep h.out) rfl _ rfl)) ?_
    refine PlanSteps.cons (ps_call (v := nv 6 [z13, z14, z15, z16, z17, z18]) rfl rfl rfl (fun W' => ex_call (vs := [nv 6 [a0, a1, a2, a3, a4, a5], nv 6 [b0, b1, b2, b3, b4, b5]]) rfl Try.call17 rfl) (fun W' h => sextMul_r ra0 ra1 ra2 ra3 ra4 ra5 rb0 rb1 rb2 rb3 rb4 rb5 la0 la1 la2 la3 la4 la5 lb0 lb1 lb2 lb3 lb4 lb5 bz13 bz14 bz15 bz16 bz17 bz18 rz13 rz14 rz15 rz16 rz17 rz18 _)) ?_
    refine PlanSteps.cons (ps_val (v := nv 6 [z1, z2, z3, z4, z5, z6]) rfl rfl rfl (fun W' h => ex_loadn (K := 6) (k := 0) (j := 6) (l := [z1, z2, z3, z4, z5, z6]) flFp6 rfl (N7.keep h.out) rfl _ rfl)) ?_
    refine PlanSteps.cons (ps_val (v := nv 6 [z7, z8, z9, z10, z11, z12]) rfl rfl rfl (fun W' h => ex_loadn (K := 6) (k := 0) (j := 6) (l := [z7, z8, z9, z10, z11, z12]) flFp6 rfl (M7.keep h.out) rfl _ rfl)) ?_
    refine PlanSteps.cons (ps_call (v := nv 6 [z13, z14, z15, z16, z17, z18]) rfl rfl rfl (fun W' => ex_call (vs := [nv 6 [z1, z2, z3, z4, z5, z6], nv 6 [z7, z8, z9, z10, z11, z12]]) rfl Try.call18 rfl) (fun W' h => r6Mul_r rz1 rz2 rz3 rz4 rz5 rz6 rz7 rz8 rz9 rz10 rz11 rz12 bz1 bz2 bz3 bz4 bz5 bz6 bz7 bz8 bz9 bz10 bz11 bz12 bz13 bz14 bz15 bz16 bz17 bz18 rz13 rz14 rz15 rz16 rz17 rz18 _)) ?_
    refine PlanSteps.cons (ps_val (v := .bool true) rfl rfl rfl (fun W' h => ex_eqt (K := 6) (l := [z13, z14, z15, z16, z17, z18]) eqFp6 rfl rfl rfl rfl)) ?_
    refine PlanSteps.cons (ps_val (v := .bool true) rfl rfl rfl (fun W' h => ex_pick (r := true) rfl)) ?_
    refine PlanSteps.cons (ps_val (v := .bool true) rfl rfl rfl (fun W' h => ex_move _)) ?_
    refine PlanSteps.cons (ps_val (v := nv 6 [z1, z2, z3, z4, z5, z6]) rfl rfl rfl (fun W' h => ex_loadn (K := 6) (k := 0) (j := 6) (l := [z1, z2, z3, z4, z5, z6]) flFp6 rfl (N7.keep h.out) rfl _ rfl)) ?_
    refine PlanSteps.cons (ps_val (v := nv 6 [a0, a1, a2, a3, a4, a5]) rfl rfl rfl (fun W' h => ex_loadn (K := 6) (k := 0) (j := 6) (l := [a0, a1, a2, a3, a4, a5]) flFp6 rfl (A8.keep h.out) rfl _ rfl)) ?_
    refine PlanSteps.cons (ps_call (v := nv 6 [u0, u1, u2, u3, u4, u5]) rfl rfl rfl (fun W' => ex_call (vs := [nv 6 [a0, a1, a2, a3, a4, a5]]) rfl Try.call20 rfl) (fun W' h => sextInv_r ra0 ra1 ra2 ra3 ra4 ra5 la0 la1 la2 la3 la4 la5 eo0 eo1 eo2 eo3 eo4 eo5 en0 en1 bm0 bm1 rm0 rm1 hj rj bu0 bu1 bu2 bu3 bu4 bu5 ru0 ru1 ru2 ru3 ru4 ru5 _)) ?_
    refine PlanSteps.cons (ps_call (v := .bool true) rfl rfl rfl (fun W' => ex_call (vs := [nv 6 [z1, z2, z3, z4, z5, z6], nv 6 [u0, u1, u2, u3, u4, u5]]) rfl Try.call19 rfl) (fun W' h => HC _)) ?_
    refine PlanSteps.cons (ps_val (v := .bool true) rfl rfl rfl (fun W' h => ex_pick (r := true) rfl)) ?_
    refine PlanSteps.cons (ps_val (v := .bool true) rfl rfl rfl (fun W' h => ex_assign _)) ?_
    exact PlanSteps.nil
  intro w11 hb11
  refine then_n ?_
  have A12 := A8.keep hb11.out
  have A13 := A9.keep hb11.out
  have A14 := N7.keep hb11.out
  have A15 := M7.keep hb11.out
  have HB16 := below_then HB10 hb11.out
  exact wp_ret (bodyPost_ret (ret_tmp Try.results4 rfl) rfl ⟨rfl, HB16⟩)

end Go.Proofs.Ytpjkcdkhfjcojaa

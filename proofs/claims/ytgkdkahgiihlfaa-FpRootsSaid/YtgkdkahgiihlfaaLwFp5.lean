/- What is proved here: the law FpRoots. -/
import Derived.Test.YtgkdkahgiihlfaaFpRoot
import Derived.Test.YtgkdkahgiihlfaaLw1Fp
namespace Go.Proofs.Ytgkdkahgiihlfaa
open Go.RowKit

theorem rootE_cl (a : Nat) : pRootE (pCl a) = pRootE a := by unfold pRootE; rw [pCl_cl]

set_option maxRecDepth 20000 in
set_option maxHeartbeats 4000000 in
theorem fpRoots_ok (a : Nat) (w : World) (ha : a < fpB) (he : 0 = pRootE a) :
    Calls Try.prog 3 #[nv 6 [a]] w (Is (.bool true) w) := by
  obtain ⟨x, hx⟩ : ∃ z, z = a % pN := ⟨_, rfl⟩
  have hxc : x = pCl a := hx
  have bx : x < pN := by rw [hxc]; exact pCl_P _
  obtain ⟨r, hr⟩ : ∃ r, r = pHigh a := ⟨_, rfl⟩
  have hrx : r = pHigh x := by rw [hxc, high_cl]; exact hr
  obtain ⟨y, hy⟩ : ∃ z, z = pRootV a := ⟨_, rfl⟩
  have by_ : y < pN := by rw [hy]; exact rootV_P _
  obtain ⟨q1, q2⟩ := rootV_square he.symm
  rw [← hy] at q1 q2
  have hlow : false = pHigh y := q2.symm
  have hsq : x = y * y % pN := by rw [hxc, ← q1]; rfl
  go_enter Try.func3, Try.ntmps3
  refine seq_lit ?_
  refine sq_new (a' := ⟨#[nv 6 [a], pt w.heap.size, ud, ud, ud, ud, ud, ud, ud, ud, ud, ud, ud, ud, ud, ud, ud, ud, ud, ud, ud, ud, ud, ud, ud, ud, ud, ud, ud, ud, ud, ud, ud, ud, ud, ud, ud, ud, ud, ud, ud, ud, ud, ud, ud, ud, ud, ud, ud, ud, ud], []⟩) (xs := rows 6 [a]) rfl rfl (ex_boxn (K := 6) (l := [a]) rfl) ?_
  intro w1 N1 hb1
  have HB2 := below_then (Below.refl w.heap.size w) hb1
  refine sq_val (a' := ⟨#[nv 6 [a], pt w.heap.size, .bool false, ud, ud, ud, ud, ud, ud, ud, ud, ud, ud, ud, ud, ud, ud, ud, ud, ud, ud, ud, ud, ud, ud, ud, ud, ud, ud, ud, ud, ud, ud, ud, ud, ud, ud, ud, ud, ud, ud, ud, ud, ud, ud, ud, ud, ud, ud, ud, ud], []⟩) (v := .bool false) rfl rfl (ex_assign _) ?_
  refine seq_nil ?_
  refine seq_lit ?_
  refine sq_val (a' := ⟨#[nv 6 [a], pt w.heap.size, .bool false, ud, ud, ud, nv 6 [a], ud, ud, ud, ud, ud, ud, ud, ud, ud, ud, ud, ud, ud, ud, ud, ud, ud, ud, ud, ud, ud, ud, ud, ud, ud, ud, ud, ud, ud, ud, ud, ud, ud, ud, ud, ud, ud, ud, ud, ud, ud, ud, ud, ud], []⟩) (v := nv 6 [a]) rfl rfl (ex_loadn (K := 6) (k := 0) (j := 1) (l := [a]) flFp rfl N1 rfl _ rfl) ?_
  refine sq_call (a' := ⟨#[nv 6 [a], pt w.heap.size, .bool false, ud, ud, ud, nv 6 [a], nv 6 [x], ud, ud, ud, ud, ud, ud, ud, ud, ud, ud, ud, ud, ud, ud, ud, ud, ud, ud, ud, ud, ud, ud, ud, ud, ud, ud, ud, ud, ud, ud, ud, ud, ud, ud, ud, ud, ud, ud, ud, ud, ud, ud, ud], []⟩) (v := nv 6 [x]) rfl rfl (ex_call (vs := [nv 6 [a]]) rfl Try.call12 rfl) (r4Clean_n a _ ha x hx) ?_
  intro w3 hb3
  have A4 := N1.keep hb3
  have HB5 := below_then HB2 hb3
  refine sq_new (a' := ⟨#[nv 6 [a], pt w.heap.size, .bool false, pt w3.heap.size, ud, ud, nv 6 [a], nv 6 [x], ud, ud, ud, ud, ud, ud, ud, ud, ud, ud, ud, ud, ud, ud, ud, ud, ud, ud, ud, ud, ud, ud, ud, ud, ud, ud, ud, ud, ud, ud, ud, ud, ud, ud, ud, ud, ud, ud, ud, ud, ud, ud, ud], []⟩) (xs := rows 6 [0]) rfl rfl (ex_alloc zFp) ?_
  intro w6 N6 hb6
  have A7 := A4.keep hb6
  have HB8 := below_then HB5 hb6
  refine sq_store (a' := ⟨#[nv 6 [a], pt w.heap.size, .bool false, pt w3.heap.size, ud, ud, nv 6 [a], nv 6 [x], ud, ud, ud, ud, ud, ud, ud, ud, ud, ud, ud, ud, ud, ud, ud, ud, ud, ud, ud, ud, ud, ud, ud, ud, ud, ud, ud, ud, ud, ud, ud, ud, ud, ud, ud, ud, ud, ud, ud, ud, ud, ud, ud], []⟩) (t := 24) (xs := rows 6 [0]) (ys := rows 6 [x]) rfl rfl N6 (len_rows rfl) (ex_storen (K := 6) (l := [0]) (m := [x]) flFp rfl rfl N6 rfl) ?_
  intro w10 N10 hst10 hoth10
  have A11 := hoth10 _ _ _ (Nat.ne_of_lt A4.lt) A7
  have HB12 := hst10 _ _ HB8 HB5.size
  refine seq_nil ?_
  refine seq_lit ?_
  refine sq_val (a' := ⟨#[nv 6 [a], pt w.heap.size, .bool false, pt w3.heap.size, ud, ud, nv 6 [a], nv 6 [x], ud, nv 6 [a], ud, ud, ud, ud, ud, ud, ud, ud, ud, ud, ud, ud, ud, ud, ud, ud, ud, ud, ud, ud, ud, ud, ud, ud, ud, ud, ud, ud, ud, ud, ud, ud, ud, ud, ud, ud, ud, ud, ud, ud, ud], []⟩) (v := nv 6 [a]) rfl rfl (ex_loadn (K := 6) (k := 0) (j := 1) (l := [a]) flFp rfl A11 rfl _ rfl) ?_
  refine sq_call (a' := ⟨#[nv 6 [a], pt w.heap.size, .bool false, pt w3.heap.size, ud, ud, nv 6 [a], nv 6 [x], ud, nv 6 [a], .tuple #[nv 6 [y], .int .i64 0], ud, ud, ud, ud, ud, ud, ud, ud, ud, ud, ud, ud, ud, ud, ud, ud, ud, ud, ud, ud, ud, ud, ud, ud, ud, ud, ud, ud, ud, ud, ud, ud, ud, ud, ud, ud, ud, ud, ud, ud], []⟩) (v := .tuple #[nv 6 [y], .int .i64 0]) rfl rfl (ex_call (vs := [nv 6 [a]]) rfl Try.call13 rfl) (fpRoot_v a _ ha y hy 0 he) ?_
  intro w13 hb13
  have A14 := A11.keep hb13
  have A15 := N10.keep hb13
  have HB16 := below_then HB12 hb13
  refine sq_val (a' := ⟨#[nv 6 [a], pt w.heap.size, .bool false, pt w3.heap.size, ud, ud, nv 6 [a], nv 6 [x], .tuple #[nv 6 [y], .int .i64 0], nv 6 [a], .tuple #[nv 6 [y], .int .i64 0], ud, ud, ud, ud, ud, ud, ud, ud, ud, ud, ud, ud, ud, ud, ud, ud, ud, ud, ud, ud, ud, ud, ud, ud, ud, ud, ud, ud, ud, ud, ud, ud, ud, ud, ud, ud, ud, ud, ud, ud], []⟩) (v := .tuple #[nv 6 [y], .int .i64 0]) rfl rfl (ex_move _) ?_
  refine sq_val (a' := ⟨#[nv 6 [a], pt w.heap.size, .bool false, pt w3.heap.size, ud, ud, nv 6 [a], nv 6 [x], .tuple #[nv 6 [y], .int .i64 0], nv 6 [a], .tuple #[nv 6 [y], .int .i64 0], nv 6 [y], ud, ud, ud, ud, ud, ud, ud, ud, ud, ud, ud, ud, ud, ud, ud, ud, ud, ud, ud, ud, ud, ud, ud, ud, ud, ud, ud, ud, ud, ud, ud, ud, ud, ud, ud, ud, ud, ud, ud], []⟩) (v := nv 6 [y]) rfl rfl (ex_extract (vs := [nv 6 [y], .int .i64 0]) rfl rfl) ?_
  refine sq_val (a' := ⟨#[nv 6 [a], pt w.heap.size, .bool false, pt w3.heap.size, ud, ud, nv 6 [a], nv 6 [x], .tuple #[nv 6 [y], .int .i64 0], nv 6 [a], .tuple #[nv 6 [y], .int .i64 0], nv 6 [y], .int .i64 0, ud, ud, ud, ud, ud, ud, ud, ud, ud, ud, ud, ud, ud, ud, ud, ud, ud, ud, ud, ud, ud, ud, ud, ud, ud, ud, ud, ud, ud, ud, ud, ud, ud, ud, ud, ud, ud, ud], []⟩) (v := .int .i64 0) rfl rfl (ex_extract (vs := [nv 6 [y], .int .i64 0]) rfl rfl) ?_
  refine sq_new (a' := ⟨#[nv 6 [a], pt w.heap.size, .bool false, pt w3.heap.size, pt w13.heap.size, ud, nv 6 [a], nv 6 [x], .tuple #[nv 6 [y], .int .i64 0], nv 6 [a], .tuple #[nv 6 [y], .int .i64 0], nv 6 [y], .int .i64 0, ud, ud, ud, ud, ud, ud, ud, ud, ud, ud, ud, ud, ud, ud, ud, ud, ud, ud, ud, ud, ud, ud, ud, ud, ud, ud, ud, ud, ud, ud, ud, ud, ud, ud, ud, ud, ud, ud], []⟩) (xs := rows 6 [0]) rfl rfl (ex_alloc zFp) ?_
  intro w17 N17 hb17
  have A18 := A14.keep hb17
  have A19 := A15.keep hb17
  have HB20 := below_then HB16 hb17
  refine sq_store (a' := ⟨#[nv 6 [a], pt w.heap.size, .bool false, pt w3.heap.size, pt w13.heap.size, ud, nv 6 [a], nv 6 [x], .tuple #[nv 6 [y], .int .i64 0], nv 6 [a], .tuple #[nv 6 [y], .int .i64 0], nv 6 [y], .int .i64 0, ud, ud, ud, ud, ud, ud, ud, ud, ud, ud, ud, ud, ud, ud, ud, ud, ud, ud, ud, ud, ud, ud, ud, ud, ud, ud, ud, ud, ud, ud, ud, ud, ud, ud, ud, ud, ud, ud], []⟩) (t := 24) (xs := rows 6 [0]) (ys := rows 6 [y]) rfl rfl N17 (len_rows rfl) (ex_storen (K := 6) (l := [0]) (m := [y]) flFp rfl rfl N17 rfl) ?_
  intro w23 N23 hst23 hoth23
  have A24 := hoth23 _ _ _ (Nat.ne_of_lt A14.lt) A18
  have A25 := hoth23 _ _ _ (Nat.ne_of_lt A15.lt) A19
  have HB26 := hst23 _ _ HB20 HB16.size
  refine sq_val (a' := ⟨#[nv 6 [a], pt w.heap.size, .bool false, pt w3.heap.size, pt w13.heap.size, .int .i64 0, nv 6 [a], nv 6 [x], .tuple #[nv 6 [y], .int .i64 0], nv 6 [a], .tuple #[nv 6 [y], .int .i64 0], nv 6 [y], .int .i64 0, ud, ud, ud, ud, ud, ud, ud, ud, ud, ud, ud, ud, ud, ud, ud, ud, ud, ud, ud, ud, ud, ud, ud, ud, ud, ud, ud, ud, ud, ud, ud, ud, ud, ud, ud, ud, ud, ud], []⟩) (v := .int .i64 0) rfl rfl (ex_assign _) ?_
  refine seq_nil ?_
  refine wp_seq ?_
  refine wp_seq (wp_region_p (F := ⟨#[nv 6 [a], pt w.heap.size, .bool false, pt w3.heap.size, pt w13.heap.size, .int .i64 0, nv 6 [a], nv 6 [x], .tuple #[nv 6 [y], .int .i64 0], nv 6 [a], .tuple #[nv 6 [y], .int .i64 0], nv 6 [y], .int .i64 0, nv 6 [a], .bool r, nv 6 [x], .bool r, .bool false, .bool false, .bool true, .bool false, .bool false, ud, ud, ud, ud, ud, ud, ud, ud, ud, ud, ud, ud, ud, ud, ud, ud, ud, ud, ud, ud, ud, ud, ud, ud, ud, ud, ud, ud, ud], []⟩) (S := Bel w23) [(13, nv 6 [a]), (14, .bool r), (15, nv 6 [x]), (16, .bool r), (17, .bool false), (18, .bool false), (19, .bool true), (20, .bool false), (21, .bool false)] (by kernel_rfl) (by kernel_rfl) (by kernel_rfl) (by kernel_rfl) rfl (by simp only [putAll, List.setIfInBounds_toArray, List.set_cons_zero, List.set_cons_succ]) (Bel.start _) ?_ ?_)
  · refine PlanSteps.cons (ps_val (v := nv 6 [a]) rfl rfl rfl (fun W' h => ex_loadn (K := 6) (k := 0) (j := 1) (l := [a]) flFp rfl (A24.keep h.out) rfl _ rfl)) ?_
    refine PlanSteps.cons (ps_call (v := .bool r) rfl rfl rfl (fun W' => ex_call (vs := [nv 6 [a]]) rfl Try.call14 rfl) (fun W' h => fpHigh_v a _ ha r hr)) ?_
    refine PlanSteps.cons (ps_val (v := nv 6 [x]) rfl rfl rfl (fun W' h => ex_loadn (K := 6) (k := 0) (j := 1) (l := [x]) flFp rfl (A25.keep h.out) rfl _ rfl)) ?_
    refine PlanSteps.cons (ps_call (v := .bool r) rfl rfl rfl (fun W' => ex_call (vs := [nv 6 [x]]) rfl Try.call15 rfl) (fun W' h => r4High_v x _ bx r hrx)) ?_
    refine PlanSteps.cons (ps_val (v := .bool false) rfl rfl rfl (fun W' h => ex_neqb (a := r) (b := r) Try.underlying4 rfl rfl false (by simp))) ?_
    refine PlanSteps.cons (ps_val (v := .bool false) rfl rfl rfl (fun W' h => ex_move _)) ?_
    refine PlanSteps.cons (ps_call (v := .bool true) rfl rfl rfl (fun W' => ex_call (vs := []) rfl Try.call16 rfl) (fun W' h => fpalive_v _)) ?_
    refine PlanSteps.cons (ps_val (v := .bool false) rfl rfl rfl (fun W' h => ex_not (r := true) rfl)) ?_
    refine PlanSteps.cons (ps_val (v := .bool false) rfl rfl rfl (fun W' h => ex_pick (r := false) rfl)) ?_
    exact PlanSteps.nil
  intro w27 hb27
  refine then_n ?_
  have A28 := A24.keep hb27.out
  have A29 := A25.keep hb27.out
  have A30 := N23.keep hb27.out
  have HB31 := below_then HB26 hb27.out
  refine wp_cond_false rfl ?_
  refine wp_skip (then_n ?_)
  refine wp_seq ?_
  refine seq_lit ?_
  refine sq_val (a' := ⟨#[nv 6 [a], pt w.heap.size, .bool false, pt w3.heap.size, pt w13.heap.size, .int .i64 0, nv 6 [a], nv 6 [x], .tuple #[nv 6 [y], .int .i64 0], nv 6 [a], .tuple #[nv 6 [y], .int .i64 0], nv 6 [y], .int .i64 0, nv 6 [a], .bool r, nv 6 [x], .bool r, .bool false, .bool false, .bool true, .bool false, .bool false, .int .i64 0, ud, ud, ud, ud, ud, ud, ud, ud, ud, ud, ud, ud, ud, ud, ud, ud, ud, ud, ud, ud, ud, ud, ud, ud, ud, ud, ud, ud], []⟩) (v := .int .i64 0) rfl rfl (ex_move _) ?_
  refine sq_val (a' := ⟨#[nv 6 [a], pt w.heap.size, .bool false, pt w3.heap.size, pt w13.heap.size, .int .i64 0, nv 6 [a], nv 6 [x], .tuple #[nv 6 [y], .int .i64 0], nv 6 [a], .tuple #[nv 6 [y], .int .i64 0], nv 6 [y], .int .i64 0, nv 6 [a], .bool r, nv 6 [x], .bool r, .bool false, .bool false, .bool true, .bool false, .bool false, .int .i64 0, .bool true, ud, ud, ud, ud, ud, ud, ud, ud, ud, ud, ud, ud, ud, ud, ud, ud, ud, ud, ud, ud, ud, ud, ud, ud, ud, ud, ud], []⟩) (v := .bool true) rfl rfl (ex_eqi rfl rfl _ rfl) ?_
  refine seq_nil ?_
  refine wp_cond_true rfl ?_
  refine wp_seq (wp_region_p (F := ⟨#[nv 6 [a], pt w.heap.size, .bool true, pt w3.heap.size, pt w13.heap.size, .int .i64 0, nv 6 [a], nv 6 [x], .tuple #[nv 6 [y], .int .i64 0], nv 6 [a], .tuple #[nv 6 [y], .int .i64 0], nv 6 [y], .int .i64 0, nv 6 [a], .bool r, nv 6 [x], .bool r, .bool false, .bool false, .bool true, .bool false, .bool false, .int .i64 0, .bool true, nv 6 [y], nv 6 [pN], .bool true, .bool true, nv 6 [y], nv 6 [y], nv 6 [x], nv 6 [x], .bool true, .bool true, .bool true, nv 6 [y], .bool false, .bool true, .bool true, ud, ud, ud, ud, ud, ud, ud, ud, ud, ud, ud, ud], []⟩) (S := Bel w27) [(24, nv 6 [y]), (25, nv 6 [pN]), (26, .bool true), (27, .bool true), (28, nv 6 [y]), (29, nv 6 [y]), (30, nv 6 [x]), (31, nv 6 [x]), (32, .bool true), (33, .bool true), (34, .bool true), (35, nv 6 [y]), (36, .bool false), (37, .bool true), (38, .bool true), (2, .bool true)] (by kernel_rfl) (by kernel_rfl) (by kernel_rfl) (by kernel_rfl) rfl (by simp only [putAll, List.setIfInBounds_toArray, List.set_cons_zero, List.set_cons_succ]) (Bel.start _) ?_ ?_)
  · refine PlanSteps.cons (ps_val (v := nv 6 [y]) rfl rfl rfl (fun W' h => ex_loadn (K := 6) (k := 0) (j := 1) (l := [y]) flFp rfl (A30.keep h.out) rfl _ rfl)) ?_
    refine PlanSteps.cons (ps_call (v := nv 6 [pN]) rfl rfl rfl (fun W' => ex_call (vs := []) rfl Try.call18 rfl) (fun W' h => r4P_n _)) ?_
    refine PlanSteps.cons (ps_call (v := .bool true) rfl rfl rfl (fun W' => ex_call (vs := [nv 6 [y], nv 6 [pN]]) rfl Try.call17 rfl) (fun W' h => r4Less_n y pN _ (Nat.lt_trans by_ fpM_lt) fpM_lt true (decide_eq_true by_).symm)) ?_
    refine PlanSteps.cons (ps_val (v := .bool true) rfl rfl rfl (fun W' h => ex_move _)) ?_
    refine PlanSteps.cons (ps_val (v := nv 6 [y]) rfl rfl rfl (fun W' h => ex_loadn (K := 6) (k := 0) (j := 1) (l := [y]) flFp rfl (A30.keep h.out) rfl _ rfl)) ?_
    refine PlanSteps.cons (ps_val (v := nv 6 [y]) rfl rfl rfl (fun W' h => ex_loadn (K := 6) (k := 0) (j := 1) (l := [y]) flFp rfl (A30.keep h.out) rfl _ rfl)) ?_
    refine PlanSteps.cons (ps_call (v := nv 6 [x]) rfl rfl rfl (fun W' => ex_call (vs := [nv 6 [y], nv 6 [y]]) rfl Try.call19 rfl) (fun W' h => r4Mul_n y y _ by_ by_ x hsq)) ?_
    refine PlanSteps.cons (ps_val (v := nv 6 [x]) rfl rfl rfl (fun W' h => ex_loadn (K := 6) (k := 0) (j := 1) (l := [x]) flFp rfl (A29.keep h.out) rfl _ rfl)) ?_
    refine PlanSteps.cons (ps_val (v := .bool true) rfl rfl rfl (fun W' h => ex_eqt (K := 6) (l := [x]) eqFp rfl rfl rfl rfl)) ?_
    refine PlanSteps.cons (ps_val (v := .bool true) rfl rfl rfl (fun W' h => ex_pick (r := true) rfl)) ?_
    refine PlanSteps.cons (ps_val (v := .bool true) rfl rfl rfl (fun W' h => ex_move _)) ?_
    refine PlanSteps.cons (ps_val (v := nv 6 [y]) rfl rfl rfl (fun W' h => ex_loadn (K := 6) (k := 0) (j := 1) (l := [y]) flFp rfl (A30.keep h.out) rfl _ rfl)) ?_
    refine PlanSteps.cons (ps_call (v := .bool false) rfl rfl rfl (fun W' => ex_call (vs := [nv 6 [y]]) rfl Try.call15 rfl) (fun W' h => r4High_v y _ by_ false hlow)) ?_
    refine PlanSteps.cons (ps_val (v := .bool true) rfl rfl rfl (fun W' h => ex_not (r := false) rfl)) ?_
    refine PlanSteps.cons (ps_val (v := .bool true) rfl rfl rfl (fun W' h => ex_pick (r := true) rfl)) ?_
    refine PlanSteps.cons (ps_val (v := .bool true) rfl rfl rfl (fun W' h => ex_assign _)) ?_
    exact PlanSteps.nil
  intro w32 hb32
  refine then_n ?_
  have A33 := A28.keep hb32.out
  have A34 := A29.keep hb32.out
  have A35 := A30.keep hb32.out
  have HB36 := below_then HB31 hb32.out
  exact wp_ret (bodyPost_ret (ret_tmp Try.results3 rfl) rfl ⟨rfl, HB36⟩)

set_option maxRecDepth 20000 in
set_option maxHeartbeats 4000000 in
theorem fpRoots_no (a : Nat) (w : World) (ha : a < fpB) (he : 21 = pRootE a) :
    Calls Try.prog 3 #[nv 6 [a]] w (Is (.bool true) w) := by
  obtain ⟨x, hx⟩ : ∃ z, z = a % pN := ⟨_, rfl⟩
  have hxc : x = pCl a := hx
  have bx : x < pN := by rw [hxc]; exact pCl_P _
  obtain ⟨r, hr⟩ : ∃ r, r = pHigh a := ⟨_, rfl⟩
  have hrx : r = pHigh x := by rw [hxc, high_cl]; exact hr
  have hy : 0 = pRootV a := by
    have hm : ¬ (pMul (pCl a ^ fpQ % pN) (pCl a ^ fpQ % pN) = pCl a) := fun hq => by
      have := (rootE_iff a).2 ((root_iff rfl).1 hq)
      rw [← he] at this
      cases this
    unfold pRootV
    rw [if_neg hm]
  have hsq : pRootE x = 21 := by rw [hxc]; exact (rootE_cl a).trans he.symm
  go_enter Try.func3, Try.ntmps3
  refine seq_lit ?_
  refine sq_new (a' := ⟨#[nv 6 [a], pt w.heap.size, ud, ud, ud, ud, ud, ud, ud, ud, ud, ud, ud, ud, ud, ud, ud, ud, ud, ud, ud, ud, ud, ud, ud, ud, ud, ud, ud, ud, ud, ud, ud, ud, ud, ud, ud, ud, ud, ud, ud, ud, ud, ud, ud, ud, ud, ud, ud, ud, ud], []⟩) (xs := rows 6 [a]) rfl rfl (ex_boxn (K := 6) (l := [a]) rfl) ?_
  intro w1 N1 hb1
  have HB2 := below_then (Below.refl w.heap.size w) hb1
  refine sq_val (a' := ⟨#[nv 6 [a], pt w.heap.size, .bool false, ud, ud, ud, ud, ud, ud, ud, ud, ud, ud, ud, ud, ud, ud, ud, ud, ud, ud, ud, ud, ud, ud, ud, ud, ud, ud, ud, ud, ud, ud, ud, ud, ud, ud, ud, ud, ud, ud, ud, ud, ud, ud, ud, ud, ud, ud, ud, ud], []⟩) (v := .bool false) rfl rfl (ex_assign _) ?_
  refine seq_nil ?_
  refine seq_lit ?_
  refine sq_val (a' := ⟨#[nv 6 [a], pt w.heap.size, .bool false, ud, ud, ud, nv 6 [a], ud, ud, ud, ud, ud, ud, ud, ud, ud, ud, ud, ud, ud, ud, ud, ud, ud, ud, ud, ud, ud, ud, ud, ud, ud, ud, ud, ud, ud, ud, ud, ud, ud, ud, ud, ud, ud, ud, ud, ud, ud, ud, ud, ud], []⟩) (v := nv 6 [a]) rfl rfl (ex_loadn (K := 6) (k := 0) (j := 1) (l := [a]) flFp rfl N1 rfl _ rfl) ?_
  refine sq_call (a' := ⟨#[nv 6 [a], pt w.heap.size, .bool false, ud, ud, ud, nv 6 [a], nv 6 [x], ud, ud, ud, ud, ud, ud, ud, ud, ud, ud, ud, ud, ud, ud, ud, ud, ud, ud, ud, ud, ud, ud, ud, ud, ud, ud, ud, ud, ud, ud, ud, ud, ud, ud, ud, ud, ud, ud, ud, ud, ud, ud, ud], []⟩) (v := nv 6 [x]) rfl rfl (ex_call (vs := [nv 6 [a]]) rfl Try.call12 rfl) (r4Clean_n a _ ha x hx) ?_
  intro w3 hb3
  have A4 := N1.keep hb3
  have HB5 := below_then HB2 hb3
  refine sq_new (a' := ⟨#[nv 6 [a], pt w.heap.size, .bool false, pt w3.heap.size, ud, ud, nv 6 [a], nv 6 [x], ud, ud, ud, ud, ud, ud, ud, ud, ud, ud, ud, ud, ud, ud, ud, ud, ud, ud, ud, ud, ud, ud, ud, ud, ud, ud, ud, ud, ud, ud, ud, ud, ud, ud, ud, ud, ud, ud, ud, ud, ud, ud, ud], []⟩) (xs := rows 6 [0]) rfl rfl (ex_alloc zFp) ?_
  intro w6 N6 hb6
  have A7 := A4.keep hb6
  have HB8 := below_then HB5 hb6
  refine sq_store (a' := ⟨#[nv 6 [a], pt w.heap.size, .bool false, pt w3.heap.size, ud, ud, nv 6 [a], nv 6 [x], ud, ud, ud, ud, ud, ud, ud, ud, ud, ud, ud, ud, ud, ud, ud, ud, ud, ud, ud, ud, ud, ud, ud, ud, ud, ud, ud, ud, ud, ud, ud, ud, ud, ud, ud, ud, ud, ud, ud, ud, ud, ud, ud], []⟩) (t := 24) (xs := rows 6 [0]) (ys := rows 6 [x]) rfl rfl N6 (len_rows rfl) (ex_storen (K := 6) (l := [0]) (m := [x]) flFp rfl rfl N6 rfl) ?_
  intro w10 N10 hst10 hoth10
  have A11 := hoth10 _ _ _ (Nat.ne_of_lt A4.lt) A7
  have HB12 := hst10 _ _ HB8 HB5.size
  refine seq_nil ?_
  refine seq_lit ?_
  refine sq_val (a' := ⟨#[nv 6 [a], pt w.heap.size, .bool false, pt w3.heap.size, ud, ud, nv 6 [a], nv 6 [x], ud, nv 6 [a], ud, ud, ud, ud, ud, ud, ud, ud, ud, ud, ud, ud, ud, ud, ud, ud, ud, ud, ud, ud, ud, ud, ud, ud, ud, ud, ud, ud, ud, ud, ud, ud, ud, ud, ud, ud, ud, ud, ud, ud, ud], []⟩) (v := nv 6 [a]) rfl rfl (ex_loadn (K := 6) (k := 0) (j := 1) (l := [a]) flFp rfl A11 rfl _ rfl) ?_
  refine sq_call (a' := ⟨#[nv 6 [a], pt w.heap.size, .bool false, pt w3.heap.size, ud, ud, nv 6 [a], nv 6 [x], ud, nv 6 [a], .tuple #[nv 6 [0], .int .i64 21], ud, ud, ud, ud, ud, ud, ud, ud, ud, ud, ud, ud, ud, ud, ud, ud, ud, ud, ud, ud, ud, ud, ud, ud, ud, ud, ud, ud, ud, ud, ud, ud, ud, ud, ud, ud, ud, ud, ud, ud], []⟩) (v := .tuple #[nv 6 [0], .int .i64 21]) rfl rfl (ex_call (vs := [nv 6 [a]]) rfl Try.call13 rfl) (fpRoot_v a _ ha 0 hy 21 he) ?_
  intro w13 hb13
  have A14 := A11.keep hb13
  have A15 := N10.keep hb13
  have HB16 := below_then HB12 hb13
  refine sq_val (a' := ⟨#[nv 6 [a], pt w.heap.size, .bool false, pt w3.heap.size, ud, ud, nv 6 [a], nv 6 [x], .tuple #[nv 6 [0], .int .i64 21], nv 6 [a], .tuple #[nv 6 [0], .int .i64 21], ud, ud, ud, ud, ud, ud, ud, ud, ud, ud, ud, ud, ud, ud, ud, ud, ud, ud, ud, ud, ud, ud, ud, ud, ud, ud, ud, ud, ud, ud, ud, ud, ud, ud, ud, ud, ud, ud, ud, ud], []⟩) (v := .tuple #[nv 6 [0], .int .i64 21]) rfl rfl (ex_move _) ?_
  refine sq_val (a' := ⟨#[nv 6 [a], pt w.heap.size, .bool false, pt w3.heap.size, ud, ud, nv 6 [a], nv 6 [x], .tuple #[nv 6 [0], .int .i64 21], nv 6 [a], .tuple #[nv 6 [0], .int .i64 21], nv 6 [0], ud, ud, ud, ud, ud, ud, ud, ud, ud, ud, ud, ud, ud, ud, ud, ud, ud, ud, ud, ud, ud, ud, ud, ud, ud, ud, ud, ud, ud, ud, ud, ud, ud, ud, ud, ud, ud, ud, ud], []⟩) (v := nv 6 [0]) rfl rfl (ex_extract (vs := [nv 6 [0], .int .i64 21]) rfl rfl) ?_
  refine sq_val (a' := ⟨#[nv 6 [a], pt w.heap.size, .bool false, pt w3.heap.size, ud, ud, nv 6 [a], nv 6 [x], .tuple #[nv 6 [0], .int .i64 21], nv 6 [a], .tuple #[nv 6 [0], .int .i64 21], nv 6 [0], .int .i64 21, ud, ud, ud, ud, ud, ud, ud, ud, ud, ud, ud, ud, ud, ud, ud, ud, ud, ud, ud, ud, ud, ud, ud, ud, ud, ud, ud, ud, ud, ud, ud, ud, ud, ud, ud, ud, ud, ud], []⟩) (v := .int .i64 21) rfl rfl (ex_extract (vs := [nv 6 [0], .int .i64 21]) rfl rfl) ?_
  refine sq_new (a' := ⟨#[nv 6 [a], pt w.heap.size, .bool false, pt w3.heap.size, pt w13.heap.size, ud, nv 6 [a], nv 6 [x], .tuple #[nv 6 [0], .int .i64 21], nv 6 [a], .tuple #[nv 6 [0], .int .i64 21], nv 6 [0], .int .i64 21, ud, ud, ud, ud, ud, ud, ud, ud, ud, ud, ud, ud, ud, ud, ud, ud, ud, ud, ud, ud, ud, ud, ud, ud, ud, ud, ud, ud, ud, ud, ud, ud, ud, ud, ud, ud, ud, ud], []⟩) (xs := rows 6 [0]) rfl rfl (ex_alloc zFp) ?_
  intro w17 N17 hb17
  have A18 := A14.keep hb17
  have A19 := A15.keep hb17
  have HB20 := below_then HB16 hb17
  refine sq_store (a' := ⟨#[nv 6 [a], pt w.heap.size, .bool false, pt w3.heap.size, pt w13.heap.size, ud, nv 6 [a], nv 6 [x], .tuple #[nv 6 [0], .int .i64 21], nv 6 [a], .tuple #[nv 6 [0], .int .i64 21], nv 6 [0], .int .i64 21, ud, ud, ud, ud, ud, ud, ud, ud, ud, ud, ud, ud, ud, ud, ud, ud, ud, ud, ud, ud, ud, ud, ud, ud, ud, ud, ud, ud, ud, ud, ud, ud, ud, ud, ud, ud, ud, ud], []⟩) (t := 24) (xs := rows 6 [0]) (ys := rows 6 [0]) rfl rfl N17 (len_rows rfl) (ex_storen (K := 6) (l := [0]) (m := [0]) flFp rfl rfl N17 rfl) ?_
  intro w23 N23 hst23 hoth23
  have A24 := hoth23 _ _ _ (Nat.ne_of_lt A14.lt) A18
  have A25 := hoth23 _ _ _ (Nat.ne_of_lt A15.lt) A19
  have HB26 := hst23 _ _ HB20 HB16.size
  refine sq_val (a' := ⟨#[nv 6 [a], pt w.heap.size, .bool false, pt w3.heap.size, pt w13.heap.size, .int .i64 21, nv 6 [a], nv 6 [x], .tuple #[nv 6 [0], .int .i64 21], nv 6 [a], .tuple #[nv 6 [0], .int .i64 21], nv 6 [0], .int .i64 21, ud, ud, ud, ud, ud, ud, ud, ud, ud, ud, ud, ud, ud, ud, ud, ud, ud, ud, ud, ud, ud, ud, ud, ud, ud, ud, ud, ud, ud, ud, ud, ud, ud, ud, ud, ud, ud, ud], []⟩) (v := .int .i64 21) rfl rfl (ex_assign _) ?_
  refine seq_nil ?_
  refine wp_seq ?_
  refine wp_seq (wp_region_p (F := ⟨#[nv 6 [a], pt w.heap.size, .bool false, pt w3.heap.size, pt w13.heap.size, .int .i64 21, nv 6 [a], nv 6 [x], .tuple #[nv 6 [0], .int .i64 21], nv 6 [a], .tuple #[nv 6 [0], .int .i64 21], nv 6 [0], .int .i64 21, nv 6 [a], .bool r, nv 6 [x], .bool r, .bool false, .bool false, .bool true, .bool false, .bool false, ud, ud, ud, ud, ud, ud, ud, ud, ud, ud, ud, ud, ud, ud, ud, ud, ud, ud, ud, ud, ud, ud, ud, ud, ud, ud, ud, ud, ud], []⟩) (S := Bel w23) [(13, nv 6 [a]), (14, .bool r), (15, nv 6 [x]), (16, .bool r), (17, .bool false), (18, .bool false), (19, .bool true), (20, .bool false), (21, .bool false)] (by kernel_rfl) (by kernel_rfl) (by kernel_rfl) (by kernel_rfl) rfl (by simp only [putAll, List.setIfInBounds_toArray, List.set_cons_zero, List.set_cons_succ]) (Bel.start _) ?_ ?_)
  · refine PlanSteps.cons (ps_val (v := nv 6 [a]) rfl rfl rfl (fun W' h => ex_loadn (K := 6) (k := 0) (j := 1) (l := [a]) flFp rfl (A24.keep h.out) rfl _ rfl)) ?_
    refine PlanSteps.cons (ps_call (v := .bool r) rfl rfl rfl (fun W' => ex_call (vs := [nv 6 [a]]) rfl Try.call14 rfl) (fun W' h => fpHigh_v a _ ha r hr)) ?_
    refine PlanSteps.cons (ps_val (v := nv 6 [x]) rfl rfl rfl (fun W' h => ex_loadn (K := 6) (k := 0) (j := 1) (l := [x]) flFp rfl (A25.keep h.out) rfl _ rfl)) ?_
    refine PlanSteps.cons (ps_call (v := .bool r) rfl rfl rfl (fun W' => ex_call (vs := [nv 6 [x]]) rfl Try.call15 rfl) (fun W' h => r4High_v x _ bx r hrx)) ?_
    refine PlanSteps.cons (ps_val (v := .bool false) rfl rfl rfl (fun W' h => ex_neqb (a := r) (b := r) Try.underlying4 rfl rfl false (by simp))) ?_
    refine PlanSteps.cons (ps_val (v := .bool false) rfl rfl rfl (fun W' h => ex_move _)) ?_
    refine PlanSteps.cons (ps_call (v := .bool true) rfl rfl rfl (fun W' => ex_call (vs := []) rfl Try.call16 rfl) (fun W' h => fpalive_v _)) ?_
    refine PlanSteps.cons (ps_val (v := .bool false) rfl rfl rfl (fun W' h => ex_not (r := true) rfl)) ?_
    refine PlanSteps.cons (ps_val (v := .bool false) rfl rfl rfl (fun W' h => ex_pick (r := false) rfl)) ?_
    exact PlanSteps.nil
  intro w27 hb27
  refine then_n ?_
  have A28 := A24.keep hb27.out
  have A29 := A25.keep hb27.out
  have A30 := N23.keep hb27.out
  have HB31 := below_then HB26 hb27.out
  refine wp_cond_false rfl ?_
  refine wp_skip (then_n ?_)
  refine wp_seq ?_
  refine seq_lit ?_
  refine sq_val (a' := ⟨#[nv 6 [a], pt w.heap.size, .bool false, pt w3.heap.size, pt w13.heap.size, .int .i64 21, nv 6 [a], nv 6 [x], .tuple #[nv 6 [0], .int .i64 21], nv 6 [a], .tuple #[nv 6 [0], .int .i64 21], nv 6 [0], .int .i64 21, nv 6 [a], .bool r, nv 6 [x], .bool r, .bool false, .bool false, .bool true, .bool false, .bool false, .int .i64 21, ud, ud, ud, ud, ud, ud, ud, ud, ud, ud, ud, ud, ud, ud, ud, ud, ud, ud, ud, ud, ud, ud, ud, ud, ud, ud, ud, ud], []⟩) (v := .int .i64 21) rfl rfl (ex_move _) ?_
  refine sq_val (a' := ⟨#[nv 6 [a], pt w.heap.size, .bool false, pt w3.heap.size, pt w13.heap.size, .int .i64 21, nv 6 [a], nv 6 [x], .tuple #[nv 6 [0], .int .i64 21], nv 6 [a], .tuple #[nv 6 [0], .int .i64 21], nv 6 [0], .int .i64 21, nv 6 [a], .bool r, nv 6 [x], .bool r, .bool false, .bool false, .bool true, .bool false, .bool false, .int .i64 21, .bool false, ud, ud, ud, ud, ud, ud, ud, ud, ud, ud, ud, ud, ud, ud, ud, ud, ud, ud, ud, ud, ud, ud, ud, ud, ud, ud, ud], []⟩) (v := .bool false) rfl rfl (ex_eqi rfl rfl _ rfl) ?_
  refine seq_nil ?_
  refine wp_cond_false rfl ?_
  refine wp_skip (then_n ?_)
  refine seq_lit ?_
  refine sq_val (a' := ⟨#[nv 6 [a], pt w.heap.size, .bool false, pt w3.heap.size, pt w13.heap.size, .int .i64 21, nv 6 [a], nv 6 [x], .tuple #[nv 6 [0], .int .i64 21], nv 6 [a], .tuple #[nv 6 [0], .int .i64 21], nv 6 [0], .int .i64 21, nv 6 [a], .bool r, nv 6 [x], .bool r, .bool false, .bool false, .bool true, .bool false, .bool false, .int .i64 21, .bool false, ud, ud, ud, ud, ud, ud, ud, ud, ud, ud, ud, ud, ud, ud, ud, .int .i64 21, ud, ud, ud, ud, ud, ud, ud, ud, ud, ud, ud], []⟩) (v := .int .i64 21) rfl rfl (ex_move _) ?_
  refine sq_val (a' := ⟨#[nv 6 [a], pt w.heap.size, .bool false, pt w3.heap.size, pt w13.heap.size, .int .i64 21, nv 6 [a], nv 6 [x], .tuple #[nv 6 [0], .int .i64 21], nv 6 [a], .tuple #[nv 6 [0], .int .i64 21], nv 6 [0], .int .i64 21, nv 6 [a], .bool r, nv 6 [x], .bool r, .bool false, .bool false, .bool true, .bool false, .bool false, .int .i64 21, .bool false, ud, ud, ud, ud, ud, ud, ud, ud, ud, ud, ud, ud, ud, ud, ud, .int .i64 21, .bool true, ud, ud, ud, ud, ud, ud, ud, ud, ud, ud], []⟩) (v := .bool true) rfl rfl (ex_eqi rfl rfl _ rfl) ?_
  refine sq_val (a' := ⟨#[nv 6 [a], pt w.heap.size, .bool false, pt w3.heap.size, pt w13.heap.size, .int .i64 21, nv 6 [a], nv 6 [x], .tuple #[nv 6 [0], .int .i64 21], nv 6 [a], .tuple #[nv 6 [0], .int .i64 21], nv 6 [0], .int .i64 21, nv 6 [a], .bool r, nv 6 [x], .bool r, .bool false, .bool false, .bool true, .bool false, .bool false, .int .i64 21, .bool false, ud, ud, ud, ud, ud, ud, ud, ud, ud, ud, ud, ud, ud, ud, ud, .int .i64 21, .bool true, .bool true, ud, ud, ud, ud, ud, ud, ud, ud, ud], []⟩) (v := .bool true) rfl rfl (ex_move _) ?_
  refine sq_val (a' := ⟨#[nv 6 [a], pt w.heap.size, .bool false, pt w3.heap.size, pt w13.heap.size, .int .i64 21, nv 6 [a], nv 6 [x], .tuple #[nv 6 [0], .int .i64 21], nv 6 [a], .tuple #[nv 6 [0], .int .i64 21], nv 6 [0], .int .i64 21, nv 6 [a], .bool r, nv 6 [x], .bool r, .bool false, .bool false, .bool true, .bool false, .bool false, .int .i64 21, .bool false, ud, ud, ud, ud, ud, ud, ud, ud, ud, ud, ud, ud, ud, ud, ud, .int .i64 21, .bool true, .bool true, nv 6 [0], ud, ud, ud, ud, ud, ud, ud, ud], []⟩) (v := nv 6 [0]) rfl rfl (ex_loadn (K := 6) (k := 0) (j := 1) (l := [0]) flFp rfl A30 rfl _ rfl) ?_
  refine sq_val (a' := ⟨#[nv 6 [a], pt w.heap.size, .bool false, pt w3.heap.size, pt w13.heap.size, .int .i64 21, nv 6 [a], nv 6 [x], .tuple #[nv 6 [0], .int .i64 21], nv 6 [a], .tuple #[nv 6 [0], .int .i64 21], nv 6 [0], .int .i64 21, nv 6 [a], .bool r, nv 6 [x], .bool r, .bool false, .bool false, .bool true, .bool false, .bool false, .int .i64 21, .bool false, ud, ud, ud, ud, ud, ud, ud, ud, ud, ud, ud, ud, ud, ud, ud, .int .i64 21, .bool true, .bool true, nv 6 [0], nv 6 [0], ud, ud, ud, ud, ud, ud, ud], []⟩) (v := nv 6 [0]) rfl rfl (ex_zero) ?_
  refine sq_val (a' := ⟨#[nv 6 [a], pt w.heap.size, .bool false, pt w3.heap.size, pt w13.heap.size, .int .i64 21, nv 6 [a], nv 6 [x], .tuple #[nv 6 [0], .int .i64 21], nv 6 [a], .tuple #[nv 6 [0], .int .i64 21], nv 6 [0], .int .i64 21, nv 6 [a], .bool r, nv 6 [x], .bool r, .bool false, .bool false, .bool true, .bool false, .bool false, .int .i64 21, .bool false, ud, ud, ud, ud, ud, ud, ud, ud, ud, ud, ud, ud, ud, ud, ud, .int .i64 21, .bool true, .bool true, nv 6 [0], nv 6 [0], .bool true, ud, ud, ud, ud, ud, ud], []⟩) (v := .bool true) rfl rfl (ex_eqt (K := 6) (l := [0]) eqFp rfl rfl rfl rfl) ?_
  refine sq_val (a' := ⟨#[nv 6 [a], pt w.heap.size, .bool false, pt w3.heap.size, pt w13.heap.size, .int .i64 21, nv 6 [a], nv 6 [x], .tuple #[nv 6 [0], .int .i64 21], nv 6 [a], .tuple #[nv 6 [0], .int .i64 21], nv 6 [0], .int .i64 21, nv 6 [a], .bool r, nv 6 [x], .bool r, .bool false, .bool false, .bool true, .bool false, .bool false, .int .i64 21, .bool false, ud, ud, ud, ud, ud, ud, ud, ud, ud, ud, ud, ud, ud, ud, ud, .int .i64 21, .bool true, .bool true, nv 6 [0], nv 6 [0], .bool true, .bool true, ud, ud, ud, ud, ud], []⟩) (v := .bool true) rfl rfl (ex_pick (r := true) rfl) ?_
  refine sq_val (a' := ⟨#[nv 6 [a], pt w.heap.size, .bool false, pt w3.heap.size, pt w13.heap.size, .int .i64 21, nv 6 [a], nv 6 [x], .tuple #[nv 6 [0], .int .i64 21], nv 6 [a], .tuple #[nv 6 [0], .int .i64 21], nv 6 [0], .int .i64 21, nv 6 [a], .bool r, nv 6 [x], .bool r, .bool false, .bool false, .bool true, .bool false, .bool false, .int .i64 21, .bool false, ud, ud, ud, ud, ud, ud, ud, ud, ud, ud, ud, ud, ud, ud, ud, .int .i64 21, .bool true, .bool true, nv 6 [0], nv 6 [0], .bool true, .bool true, .bool true, ud, ud, ud, ud], []⟩) (v := .bool true) rfl rfl (ex_move _) ?_
  refine sq_val (a' := ⟨#[nv 6 [a], pt w.heap.size, .bool false, pt w3.heap.size, pt w13.heap.size, .int .i64 21, nv 6 [a], nv 6 [x], .tuple #[nv 6 [0], .int .i64 21], nv 6 [a], .tuple #[nv 6 [0], .int .i64 21], nv 6 [0], .int .i64 21, nv 6 [a], .bool r, nv 6 [x], .bool r, .bool false, .bool false, .bool true, .bool false, .bool false, .int .i64 21, .bool false, ud, ud, ud, ud, ud, ud, ud, ud, ud, ud, ud, ud, ud, ud, ud, .int .i64 21, .bool true, .bool true, nv 6 [0], nv 6 [0], .bool true, .bool true, .bool true, nv 6 [x], ud, ud, ud], []⟩) (v := nv 6 [x]) rfl rfl (ex_loadn (K := 6) (k := 0) (j := 1) (l := [x]) flFp rfl A29 rfl _ rfl) ?_
  refine sq_call (a' := ⟨#[nv 6 [a], pt w.heap.size, .bool false, pt w3.heap.size, pt w13.heap.size, .int .i64 21, nv 6 [a], nv 6 [x], .tuple #[nv 6 [0], .int .i64 21], nv 6 [a], .tuple #[nv 6 [0], .int .i64 21], nv 6 [0], .int .i64 21, nv 6 [a], .bool r, nv 6 [x], .bool r, .bool false, .bool false, .bool true, .bool false, .bool false, .int .i64 21, .bool false, ud, ud, ud, ud, ud, ud, ud, ud, ud, ud, ud, ud, ud, ud, ud, .int .i64 21, .bool true, .bool true, nv 6 [0], nv 6 [0], .bool true, .bool true, .bool true, nv 6 [x], .bool false, ud, ud], []⟩) (v := .bool false) rfl rfl (ex_call (vs := [nv 6 [x]]) rfl Try.call20 rfl) (r4Square_none x _ bx hsq) ?_
  intro w32 hb32
  have A33 := A28.keep hb32
  have A34 := A29.keep hb32
  have A35 := A30.keep hb32
  have HB36 := below_then HB31 hb32
  refine sq_val (a' := ⟨#[nv 6 [a], pt w.heap.size, .bool false, pt w3.heap.size, pt w13.heap.size, .int .i64 21, nv 6 [a], nv 6 [x], .tuple #[nv 6 [0], .int .i64 21], nv 6 [a], .tuple #[nv 6 [0], .int .i64 21], nv 6 [0], .int .i64 21, nv 6 [a], .bool r, nv 6 [x], .bool r, .bool false, .bool false, .bool true, .bool false, .bool false, .int .i64 21, .bool false, ud, ud, ud, ud, ud, ud, ud, ud, ud, ud, ud, ud, ud, ud, ud, .int .i64 21, .bool true, .bool true, nv 6 [0], nv 6 [0], .bool true, .bool true, .bool true, nv 6 [x], .bool false, .bool true, ud], []⟩) (v := .bool true) rfl rfl (ex_not (r := false) rfl) ?_
  refine sq_val (a' := ⟨#[nv 6 [a], pt w.heap.size, .bool false, pt w3.heap.size, pt w13.heap.size, .int .i64 21, nv 6 [a], nv 6 [x], .tuple #[nv 6 [0], .int .i64 21], nv 6 [a], .tuple #[nv 6 [0], .int .i64 21], nv 6 [0], .int .i64 21, nv 6 [a], .bool r, nv 6 [x], .bool r, .bool false, .bool false, .bool true, .bool false, .bool false, .int .i64 21, .bool false, ud, ud, ud, ud, ud, ud, ud, ud, ud, ud, ud, ud, ud, ud, ud, .int .i64 21, .bool true, .bool true, nv 6 [0], nv 6 [0], .bool true, .bool true, .bool true, nv 6 [x], .bool false, .bool true, .bool true], []⟩) (v := .bool true) rfl rfl (ex_pick (r := true) rfl) ?_
  refine sq_val (a' := ⟨#[nv 6 [a], pt w.heap.size, .bool true, pt w3.heap.size, pt w13.heap.size, .int .i64 21, nv 6 [a], nv 6 [x], .tuple #[nv 6 [0], .int .i64 21], nv 6 [a], .tuple #[nv 6 [0], .int .i64 21], nv 6 [0], .int .i64 21, nv 6 [a], .bool r, nv 6 [x], .bool r, .bool false, .bool false, .bool true, .bool false, .bool false, .int .i64 21, .bool false, ud, ud, ud, ud, ud, ud, ud, ud, ud, ud, ud, ud, ud, ud, ud, .int .i64 21, .bool true, .bool true, nv 6 [0], nv 6 [0], .bool true, .bool true, .bool true, nv 6 [x], .bool false, .bool true, .bool true], []⟩) (v := .bool true) rfl rfl (ex_assign _) ?_
  refine seq_nil ?_
  exact wp_ret (bodyPost_ret (ret_tmp Try.results3 rfl) rfl ⟨rfl, HB36⟩)

theorem fpRoots_v (a : Nat) (w : World) (ha : a < fpB) : Calls Try.prog 3 #[nv 6 [a]] w (Is (.bool true) w) := by
  rcases rootE_or a with h | h
  · exact fpRoots_ok a w ha h.symm
  · exact fpRoots_no a w ha h.symm

end Go.Proofs.Ytgkdkahgiihlfaa

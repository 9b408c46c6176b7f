/- What is proved here: the law FullTurns. -/
import Derived.Test.YtodabjelnllkgaaFullPow
import Derived.Test.YtodabjelnllkgaaFullTurn
namespace Go.Proofs.Ytodabjelnllkgaa
open Go.RowKit

theorem two_B : 2 < fpB := by decide +kernel

set_option maxRecDepth 20000 in
set_option maxHeartbeats 4000000 in
theorem fullTurns_v (a b : N12) (w : World) (la : ∀ x ∈ a.l, x < fpB) (lb : ∀ x ∈ b.l, x < fpB) :
    Calls Try.prog 7 #[nv 6 a.l, nv 6 b.l] w (Is (.bool true) w) := by
  obtain ⟨X, ha⟩ := qb_self a la
  obtain ⟨Y, hb⟩ := qb_self b lb
  obtain ⟨s, hs⟩ := qp_of (E12.add X Y)
  obtain ⟨m, hm⟩ := qp_of (E12.mul X Y)
  obtain ⟨ka, hka⟩ := qp_of (E12.conj X)
  obtain ⟨kb, hkb⟩ := qp_of (E12.conj Y)
  obtain ⟨ks, hks⟩ := qp_of (E12.conj (E12.add X Y))
  obtain ⟨km, hkm⟩ := qp_of (E12.conj (E12.mul X Y))
  obtain ⟨o, ho⟩ := qp_of (E12.nrm X)
  have HO : QP ⟨o.n0, o.n1, o.n2, o.n3, o.n4, o.n5, 0, 0, 0, 0, 0, 0⟩ (E12.mul X (E12.conj X)) := by
    rw [E12.mul_conj]
    exact ⟨ho.b0, ho.b1, ho.b2, ho.b3, ho.b4, ho.b5, zero_P, zero_P, zero_P, zero_P, zero_P, zero_P, ho.r0, ho.r1, ho.r2, ho.r3, ho.r4, ho.r5, rep_0, rep_0, rep_0, rep_0, rep_0, rep_0⟩
  have hw : QP ⟨0, 0, 0, 0, 0, 0, 1, 0, 0, 0, 0, 0⟩ ⟨0, 0, 0, 0, 0, 0, 1, 0, 0, 0, 0, 0⟩ := ⟨zero_P, zero_P, zero_P, zero_P, zero_P, zero_P, one_P, zero_P, zero_P, zero_P, zero_P, zero_P, rep_0, rep_0, rep_0, rep_0, rep_0, rep_0, rep_1, rep_0, rep_0, rep_0, rep_0, rep_0⟩
  have hw2 : QP ⟨0, 0, 1, 0, 0, 0, 0, 0, 0, 0, 0, 0⟩ (S12.pow ⟨0, 0, 0, 0, 0, 0, 1, 0, 0, 0, 0, 0⟩ 2) := ⟨zero_P, zero_P, one_P, zero_P, zero_P, zero_P, zero_P, zero_P, zero_P, zero_P, zero_P, zero_P, rep_0, rep_0, rep_1, rep_0, rep_0, rep_0, rep_0, rep_0, rep_0, rep_0, rep_0, rep_0⟩
  have HW : ∀ w, Calls Try.prog 19 #[nv 6 [0, 0, 0, 0, 0, 0, 1, 0, 0, 0, 0, 0], nv 6 [2]] w (Is (nv 6 [0, 0, 1, 0, 0, 0, 0, 0, 0, 0, 0, 0]) w) := fun w => fullPow_q hw.toB two_B hw2 w
  go_enter Try.func7, Try.ntmps7
  refine seq_lit ?_
  refine sq_new (a' := ⟨List.toArray ((nv 6 a.l) :: (nv 6 b.l) :: (.pointer (some ⟨w.heap.size, 0, none⟩)) :: undef :: undef :: undef :: undef :: undef :: undef :: undef :: undef :: undef :: undef :: undef :: undef :: undef :: undef :: undef :: undef :: undef :: undef :: undef :: undef :: undef :: undef :: undef :: undef :: undef :: undef :: undef :: undef :: undef :: undef :: undef :: undef :: undef :: undef :: undef :: undef :: undef :: undef :: undef :: undef :: undef :: undef :: undef :: undef :: undef :: undef :: undef :: undef :: undef :: undef :: undef :: undef :: undef :: undef :: undef :: undef :: undef :: undef :: undef :: []), []⟩) (xs := rows 6 a.l) rfl rfl (ex_boxn (K := 6) (l := a.l) rfl) ?_
  intro w1 N1 hb1
  have HB2 := below_then (Below.refl w.heap.size w) hb1
  refine sq_new (a' := ⟨List.toArray ((nv 6 a.l) :: (nv 6 b.l) :: (.pointer (some ⟨w.heap.size, 0, none⟩)) :: (.pointer (some ⟨w1.heap.size, 0, none⟩)) :: undef :: undef :: undef :: undef :: undef :: undef :: undef :: undef :: undef :: undef :: undef :: undef :: undef :: undef :: undef :: undef :: undef :: undef :: undef :: undef :: undef :: undef :: undef :: undef :: undef :: undef :: undef :: undef :: undef :: undef :: undef :: undef :: undef :: undef :: undef :: undef :: undef :: undef :: undef :: undef :: undef :: undef :: undef :: undef :: undef :: undef :: undef :: undef :: undef :: undef :: undef :: undef :: undef :: undef :: undef :: undef :: undef :: undef :: []), []⟩) (xs := rows 6 b.l) rfl rfl (ex_boxn (K := 6) (l := b.l) rfl) ?_
  intro w3 N3 hb3
  have A4 := N1.keep hb3
  have HB5 := below_then HB2 hb3
  refine sq_val (a' := ⟨List.toArray ((nv 6 a.l) :: (nv 6 b.l) :: (.pointer (some ⟨w.heap.size, 0, none⟩)) :: (.pointer (some ⟨w1.heap.size, 0, none⟩)) :: (.bool false) :: undef :: undef :: undef :: undef :: undef :: undef :: undef :: undef :: undef :: undef :: undef :: undef :: undef :: undef :: undef :: undef :: undef :: undef :: undef :: undef :: undef :: undef :: undef :: undef :: undef :: undef :: undef :: undef :: undef :: undef :: undef :: undef :: undef :: undef :: undef :: undef :: undef :: undef :: undef :: undef :: undef :: undef :: undef :: undef :: undef :: undef :: undef :: undef :: undef :: undef :: undef :: undef :: undef :: undef :: undef :: undef :: undef :: []), []⟩) (v := .bool false) rfl rfl (ex_assign _) ?_
  refine seq_nil ?_
  refine seq_lit ?_
  refine sq_val (a' := ⟨List.toArray ((nv 6 a.l) :: (nv 6 b.l) :: (.pointer (some ⟨w.heap.size, 0, none⟩)) :: (.pointer (some ⟨w1.heap.size, 0, none⟩)) :: (.bool false) :: (.func (.func 13) #[] #[]) :: undef :: undef :: undef :: undef :: undef :: undef :: undef :: undef :: undef :: undef :: undef :: undef :: undef :: undef :: undef :: undef :: undef :: undef :: undef :: undef :: undef :: undef :: undef :: undef :: undef :: undef :: undef :: undef :: undef :: undef :: undef :: undef :: undef :: undef :: undef :: undef :: undef :: undef :: undef :: undef :: undef :: undef :: undef :: undef :: undef :: undef :: undef :: undef :: undef :: undef :: undef :: undef :: undef :: undef :: undef :: undef :: []), []⟩) (v := .func (.func 13) #[] #[]) rfl rfl (ex_assign _) ?_
  refine seq_nil ?_
  refine seq_lit ?_
  refine sq_val (a' := ⟨List.toArray ((nv 6 a.l) :: (nv 6 b.l) :: (.pointer (some ⟨w.heap.size, 0, none⟩)) :: (.pointer (some ⟨w1.heap.size, 0, none⟩)) :: (.bool false) :: (.func (.func 13) #[] #[]) :: undef :: (nv 6 [1]) :: undef :: undef :: undef :: undef :: undef :: undef :: undef :: undef :: undef :: undef :: undef :: undef :: undef :: undef :: undef :: undef :: undef :: undef :: undef :: undef :: undef :: undef :: undef :: undef :: undef :: undef :: undef :: undef :: undef :: undef :: undef :: undef :: undef :: undef :: undef :: undef :: undef :: undef :: undef :: undef :: undef :: undef :: undef :: undef :: undef :: undef :: undef :: undef :: undef :: undef :: undef :: undef :: undef :: undef :: []), []⟩) (v := nv 6 [1]) rfl rfl (ex_one rfl) ?_
  refine sq_val (a' := ⟨List.toArray ((nv 6 a.l) :: (nv 6 b.l) :: (.pointer (some ⟨w.heap.size, 0, none⟩)) :: (.pointer (some ⟨w1.heap.size, 0, none⟩)) :: (.bool false) :: (.func (.func 13) #[] #[]) :: undef :: (nv 6 [1]) :: (nv 6 [1, 0]) :: undef :: undef :: undef :: undef :: undef :: undef :: undef :: undef :: undef :: undef :: undef :: undef :: undef :: undef :: undef :: undef :: undef :: undef :: undef :: undef :: undef :: undef :: undef :: undef :: undef :: undef :: undef :: undef :: undef :: undef :: undef :: undef :: undef :: undef :: undef :: undef :: undef :: undef :: undef :: undef :: undef :: undef :: undef :: undef :: undef :: undef :: undef :: undef :: undef :: undef :: undef :: undef :: undef :: []), []⟩) (v := nv 6 [1, 0]) rfl rfl (ex_build stFp2 (vs := [(0, nv 6 [1])]) rfl (bdA 1)) ?_
  refine sq_val (a' := ⟨List.toArray ((nv 6 a.l) :: (nv 6 b.l) :: (.pointer (some ⟨w.heap.size, 0, none⟩)) :: (.pointer (some ⟨w1.heap.size, 0, none⟩)) :: (.bool false) :: (.func (.func 13) #[] #[]) :: undef :: (nv 6 [1]) :: (nv 6 [1, 0]) :: (nv 6 [1, 0, 0, 0, 0, 0]) :: undef :: undef :: undef :: undef :: undef :: undef :: undef :: undef :: undef :: undef :: undef :: undef :: undef :: undef :: undef :: undef :: undef :: undef :: undef :: undef :: undef :: undef :: undef :: undef :: undef :: undef :: undef :: undef :: undef :: undef :: undef :: undef :: undef :: undef :: undef :: undef :: undef :: undef :: undef :: undef :: undef :: undef :: undef :: undef :: undef :: undef :: undef :: undef :: undef :: undef :: undef :: undef :: []), []⟩) (v := nv 6 [1, 0, 0, 0, 0, 0]) rfl rfl (ex_build stFp6 (vs := [(0, nv 6 [1, 0])]) rfl (bd6A 1 0)) ?_
  refine sq_val (a' := ⟨List.toArray ((nv 6 a.l) :: (nv 6 b.l) :: (.pointer (some ⟨w.heap.size, 0, none⟩)) :: (.pointer (some ⟨w1.heap.size, 0, none⟩)) :: (.bool false) :: (.func (.func 13) #[] #[]) :: undef :: (nv 6 [1]) :: (nv 6 [1, 0]) :: (nv 6 [1, 0, 0, 0, 0, 0]) :: (nv 6 [0, 0, 0, 0, 0, 0, 1, 0, 0, 0, 0, 0]) :: undef :: undef :: undef :: undef :: undef :: undef :: undef :: undef :: undef :: undef :: undef :: undef :: undef :: undef :: undef :: undef :: undef :: undef :: undef :: undef :: undef :: undef :: undef :: undef :: undef :: undef :: undef :: undef :: undef :: undef :: undef :: undef :: undef :: undef :: undef :: undef :: undef :: undef :: undef :: undef :: undef :: undef :: undef :: undef :: undef :: undef :: undef :: undef :: undef :: undef :: undef :: []), []⟩) (v := nv 6 [0, 0, 0, 0, 0, 0, 1, 0, 0, 0, 0, 0]) rfl rfl (ex_build stFp12 (vs := [(1, nv 6 [1, 0, 0, 0, 0, 0])]) rfl (bd12B 1 0 0 0 0 0)) ?_
  refine sq_new (a' := ⟨List.toArray ((nv 6 a.l) :: (nv 6 b.l) :: (.pointer (some ⟨w.heap.size, 0, none⟩)) :: (.pointer (some ⟨w1.heap.size, 0, none⟩)) :: (.bool false) :: (.func (.func 13) #[] #[]) :: (.pointer (some ⟨w3.heap.size, 0, none⟩)) :: (nv 6 [1]) :: (nv 6 [1, 0]) :: (nv 6 [1, 0, 0, 0, 0, 0]) :: (nv 6 [0, 0, 0, 0, 0, 0, 1, 0, 0, 0, 0, 0]) :: undef :: undef :: undef :: undef :: undef :: undef :: undef :: undef :: undef :: undef :: undef :: undef :: undef :: undef :: undef :: undef :: undef :: undef :: undef :: undef :: undef :: undef :: undef :: undef :: undef :: undef :: undef :: undef :: undef :: undef :: undef :: undef :: undef :: undef :: undef :: undef :: undef :: undef :: undef :: undef :: undef :: undef :: undef :: undef :: undef :: undef :: undef :: undef :: undef :: undef :: undef :: []), []⟩) (xs := rows 6 [0, 0, 0, 0, 0, 0, 0, 0, 0, 0, 0, 0]) rfl rfl (ex_alloc zFp12) ?_
  intro w7 N7 hb7
  have A8 := A4.keep hb7
  have A9 := N3.keep hb7
  have HB10 := below_then HB5 hb7
  refine sq_store (a' := ⟨List.toArray ((nv 6 a.l) :: (nv 6 b.l) :: (.pointer (some ⟨w.heap.size, 0, none⟩)) :: (.pointer (some ⟨w1.heap.size, 0, none⟩)) :: (.bool false) :: (.func (.func 13) #[] #[]) :: (.pointer (some ⟨w3.heap.size, 0, none⟩)) :: (nv 6 [1]) :: (nv 6 [1, 0]) :: (nv 6 [1, 0, 0, 0, 0, 0]) :: (nv 6 [0, 0, 0, 0, 0, 0, 1, 0, 0, 0, 0, 0]) :: undef :: undef :: undef :: undef :: undef :: undef :: undef :: undef :: undef :: undef :: undef :: undef :: undef :: undef :: undef :: undef :: undef :: undef :: undef :: undef :: undef :: undef :: undef :: undef :: undef :: undef :: undef :: undef :: undef :: undef :: undef :: undef :: undef :: undef :: undef :: undef :: undef :: undef :: undef :: undef :: undef :: undef :: undef :: undef :: undef :: undef :: undef :: undef :: undef :: undef :: undef :: []), []⟩) (t := 30) (xs := rows 6 [0, 0, 0, 0, 0, 0, 0, 0, 0, 0, 0, 0]) (ys := rows 6 [0, 0, 0, 0, 0, 0, 1, 0, 0, 0, 0, 0]) rfl rfl N7 (len_rows rfl) (ex_storen (K := 6) (l := [0, 0, 0, 0, 0, 0, 0, 0, 0, 0, 0, 0]) (m := [0, 0, 0, 0, 0, 0, 1, 0, 0, 0, 0, 0]) flFp12 rfl rfl N7 rfl) ?_
  intro w13 N13 hst13 hoth13
  have A14 := hoth13 _ _ _ (Nat.ne_of_lt A4.lt) A8
  have A15 := hoth13 _ _ _ (Nat.ne_of_lt N3.lt) A9
  have HB16 := hst13 _ _ HB10 HB5.size
  refine seq_nil ?_
  refine wp_seq (wp_region_p (F := ⟨List.toArray ((nv 6 a.l) :: (nv 6 b.l) :: (.pointer (some ⟨w.heap.size, 0, none⟩)) :: (.pointer (some ⟨w1.heap.size, 0, none⟩)) :: (.bool true) :: (.func (.func 13) #[] #[]) :: (.pointer (some ⟨w3.heap.size, 0, none⟩)) :: (nv 6 [1]) :: (nv 6 [1, 0]) :: (nv 6 [1, 0, 0, 0, 0, 0]) :: (nv 6 [0, 0, 0, 0, 0, 0, 1, 0, 0, 0, 0, 0]) :: (.bool true) :: (.bool true) :: (.func (.func 13) #[] #[]) :: (nv 6 a.l) :: (nv 6 b.l) :: (nv 6 s.l) :: (nv 6 ks.l) :: (.func (.func 13) #[] #[]) :: (nv 6 a.l) :: (nv 6 ka.l) :: (.func (.func 13) #[] #[]) :: (nv 6 b.l) :: (nv 6 kb.l) :: (nv 6 ks.l) :: (.bool true) :: (.bool true) :: (.bool true) :: (.func (.func 13) #[] #[]) :: (nv 6 a.l) :: (nv 6 b.l) :: (nv 6 m.l) :: (nv 6 km.l) :: (.func (.func 13) #[] #[]) :: (nv 6 a.l) :: (nv 6 ka.l) :: (.func (.func 13) #[] #[]) :: (nv 6 b.l) :: (nv 6 kb.l) :: (nv 6 km.l) :: (.bool true) :: (.bool true) :: (.bool true) :: (nv 6 a.l) :: (.func (.func 13) #[] #[]) :: (nv 6 a.l) :: (nv 6 ka.l) :: (nv 6 [o.n0, o.n1, o.n2, o.n3, o.n4, o.n5, 0, 0, 0, 0, 0, 0]) :: (nv 6 [0, 0, 0, 0, 0, 0]) :: (nv 6 [0, 0, 0, 0, 0, 0]) :: (.bool true) :: (.bool true) :: (.bool true) :: (nv 6 [0, 0, 0, 0, 0, 0, 1, 0, 0, 0, 0, 0]) :: (nv 6 [2]) :: (nv 6 [0, 0, 1, 0, 0, 0, 0, 0, 0, 0, 0, 0]) :: (nv 6 [1]) :: (nv 6 [1, 0]) :: (nv 6 [0, 0, 1, 0, 0, 0]) :: (nv 6 [0, 0, 1, 0, 0, 0, 0, 0, 0, 0, 0, 0]) :: (.bool true) :: (.bool true) :: []), []⟩) (S := Bel w13) [(11, .bool true), (12, .bool true), (13, .func (.func 13) #[] #[]), (14, nv 6 a.l), (15, nv 6 b.l), (16, nv 6 s.l), (17, nv 6 ks.l), (18, .func (.func 13) #[] #[]), (19, nv 6 a.l), (20, nv 6 ka.l), (21, .func (.func 13) #[] #[]), (22, nv 6 b.l), (23, nv 6 kb.l), (24, nv 6 ks.l), (25, .bool true), (26, .bool true), (27, .bool true), (28, .func (.func 13) #[] #[]), (29, nv 6 a.l), (30, nv 6 b.l), (31, nv 6 m.l), (32, nv 6 km.l), (33, .func (.func 13) #[] #[]), (34, nv 6 a.l), (35, nv 6 ka.l), (36, .func (.func 13) #[] #[]), (37, nv 6 b.l), (38, nv 6 kb.l), (39, nv 6 km.l), (40, .bool true), (41, .bool true), (42, .bool true), (43, nv 6 a.l), (44, .func (.func 13) #[] #[]), (45, nv 6 a.l), (46, nv 6 ka.l), (47, nv 6 [o.n0, o.n1, o.n2, o.n3, o.n4, o.n5, 0, 0, 0, 0, 0, 0]), (48, nv 6 [0, 0, 0, 0, 0, 0]), (49, nv 6 [0, 0, 0, 0, 0, 0]), (50, .bool true), (51, .bool true), (52, .bool true), (53, nv 6 [0, 0, 0, 0, 0, 0, 1, 0, 0, 0, 0, 0]), (54, nv 6 [2]), (55, nv 6 [0, 0, 1, 0, 0, 0, 0, 0, 0, 0, 0, 0]), (56, nv 6 [1]), (57, nv 6 [1, 0]), (58, nv 6 [0, 0, 1, 0, 0, 0]), (59, nv 6 [0, 0, 1, 0, 0, 0, 0, 0, 0, 0, 0, 0]), (60, .bool true), (61, .bool true), (4, .bool true)] (by kernel_rfl) (by kernel_rfl) (by kernel_rfl) (by kernel_rfl) rfl (by simp only [putAll, List.setIfInBounds_toArray, List.set_cons_zero, List.set_cons_succ]) (Bel.start _) ?_ ?_)
  · refine PlanSteps.cons (ps_call (v := .bool true) rfl rfl rfl (fun W' => ex_call (vs := []) rfl Try.call9 rfl) (fun W' h => fullalive_w _)) ?_
    refine PlanSteps.cons (ps_val (v := .bool true) rfl rfl rfl (fun W' h => ex_move _)) ?_
    refine PlanSteps.cons (ps_val (v := .func (.func 13) #[] #[]) rfl rfl rfl (fun W' h => ex_move _)) ?_
    refine PlanSteps.cons (ps_val (v := nv 6 a.l) rfl rfl rfl (fun W' h => ex_loadn (K := 6) (k := 0) (j := 12) (l := a.l) flFp12 rfl (A14.keep h.out) rfl _ rfl)) ?_
    refine PlanSteps.cons (ps_val (v := nv 6 b.l) rfl rfl rfl (fun W' h => ex_loadn (K := 6) (k := 0) (j := 12) (l := b.l) flFp12 rfl (A15.keep h.out) rfl _ rfl)) ?_
    refine PlanSteps.cons (ps_call (v := nv 6 s.l) rfl rfl rfl (fun W' => ex_call (vs := [nv 6 a.l, nv 6 b.l]) rfl Try.call11 rfl) (fun W' h => fullAdd_q ha hb hs _)) ?_
    refine PlanSteps.cons (ps_call (v := nv 6 ks.l) rfl rfl rfl (fun W' => ex_call (vs := [nv 6 s.l]) rfl Try.call13 rfl) (fun W' h => fullConj_q hs.toB hks _)) ?_
    refine PlanSteps.cons (ps_val (v := .func (.func 13) #[] #[]) rfl rfl rfl (fun W' h => ex_move _)) ?_
    refine PlanSteps.cons (ps_val (v := nv 6 a.l) rfl rfl rfl (fun W' h => ex_loadn (K := 6) (k := 0) (j := 12) (l := a.l) flFp12 rfl (A14.keep h.out) rfl _ rfl)) ?_
    refine PlanSteps.cons (ps_call (v := nv 6 ka.l) rfl rfl rfl (fun W' => ex_call (vs := [nv 6 a.l]) rfl Try.call13 rfl) (fun W' h => fullConj_q ha hka _)) ?_
    refine PlanSteps.cons (ps_val (v := .func (.func 13) #[] #[]) rfl rfl rfl (fun W' h => ex_move _)) ?_
    refine PlanSteps.cons (ps_val (v := nv 6 b.l) rfl rfl rfl (fun W' h => ex_loadn (K := 6) (k := 0) (j := 12) (l := b.l) flFp12 rfl (A15.keep h.out) rfl _ rfl)) ?_
    refine PlanSteps.cons (ps_call (v := nv 6 kb.l) rfl rfl rfl (fun W' => ex_call (vs := [nv 6 b.l]) rfl Try.call13 rfl) (fun W' h => fullConj_q hb hkb _)) ?_
    refine PlanSteps.cons (ps_call (v := nv 6 ks.l) rfl rfl rfl (fun W' => ex_call (vs := [nv 6 ka.l, nv 6 kb.l]) rfl Try.call11 rfl) (fun W' h => fullAdd_q hka.toB hkb.toB (hks.of (E12.conj_add X Y)) _)) ?_
    refine PlanSteps.cons (ps_val (v := .bool true) rfl rfl rfl (fun W' h => ex_eqt (K := 6) (l := ks.l) eqFp12 rfl rfl rfl rfl)) ?_
    refine PlanSteps.cons (ps_val (v := .bool true) rfl rfl rfl (fun W' h => ex_pick (r := true) rfl)) ?_
    refine PlanSteps.cons (ps_val (v := .bool true) rfl rfl rfl (fun W' h => ex_move _)) ?_
    refine PlanSteps.cons (ps_val (v := .func (.func 13) #[] #[]) rfl rfl rfl (fun W' h => ex_move _)) ?_
    refine PlanSteps.cons (ps_val (v := nv 6 a.l) rfl rfl rfl (fun W' h => ex_loadn (K := 6) (k := 0) (j := 12) (l := a.l) flFp12 rfl (A14.keep h.out) rfl _ rfl)) ?_
    refine PlanSteps.cons (ps_val (v := nv 6 b.l) rfl rfl rfl (fun W' h => ex_loadn (K := 6) (k := 0) (j := 12) (l := b.l) flFp12 rfl (A15.keep h.out) rfl _ rfl)) ?_
    refine PlanSteps.cons (ps_call (v := nv 6 m.l) rfl rfl rfl (fun W' => ex_call (vs := [nv 6 a.l, nv 6 b.l]) rfl Try.call15 rfl) (fun W' h => fullMul_q ha hb hm _)) ?_
    refine PlanSteps.cons (ps_call (v := nv 6 km.l) rfl rfl rfl (fun W' => ex_call (vs := [nv 6 m.l]) rfl Try.call13 rfl) (fun W' h => fullConj_q hm.toB hkm _)) ?_
    refine PlanSteps.cons (ps_val (v := .func (.func 13) #[] #[]) rfl rfl rfl (fun W' h => ex_move _)) ?_
    refine PlanSteps.cons (ps_val (v := nv 6 a.l) rfl rfl rfl (fun W' h => ex_loadn (K := 6) (k := 0) (j := 12) (l := a.l) flFp12 rfl (A14.keep h.out) rfl _ rfl)) ?_
    refine PlanSteps.cons (ps_call (v := nv 6 ka.l) rfl rfl rfl (fun W' => ex_call (vs := [nv 6 a.l]) rfl Try.call13 rfl) (fun W' h => fullConj_q ha hka _)) ?_
    refine PlanSteps.cons (ps_val (v := .func (.func 13) #[] #[]) rfl rfl rfl (fun W' h => ex_move _)) ?_
    refine PlanSteps.cons (ps_val (v := nv 6 b.l) rfl rfl rfl (fun W' h => ex_loadn (K := 6) (k := 0) (j := 12) (l := b.l) flFp12 rfl (A15.keep h.out) rfl _ rfl)) ?_
    refine PlanSteps.cons (ps_call (v := nv 6 kb.l) rfl rfl rfl (fun W' => ex_call (vs := [nv 6 b.l]) rfl Try.call13 rfl) (fun W' h => fullConj_q hb hkb _)) ?_
    refine PlanSteps.cons (ps_call (v := nv 6 km.l) rfl rfl rfl (fun W' => ex_call (vs := [nv 6 ka.l, nv 6 kb.l]) rfl Try.call15 rfl) (fun W' h => fullMul_q hka.toB hkb.toB (hkm.of (E12.conj_mul X Y)) _)) ?_
    refine PlanSteps.cons (ps_val (v := .bool true) rfl rfl rfl (fun W' h => ex_eqt (K := 6) (l := km.l) eqFp12 rfl rfl rfl rfl)) ?_
    refine PlanSteps.cons (ps_val (v := .bool true) rfl rfl rfl (fun W' h => ex_pick (r := true) rfl)) ?_
    refine PlanSteps.cons (ps_val (v := .bool true) rfl rfl rfl (fun W' h => ex_move _)) ?_
    refine PlanSteps.cons (ps_val (v := nv 6 a.l) rfl rfl rfl (fun W' h => ex_loadn (K := 6) (k := 0) (j := 12) (l := a.l) flFp12 rfl (A14.keep h.out) rfl _ rfl)) ?_
    refine PlanSteps.cons (ps_val (v := .func (.func 13) #[] #[]) rfl rfl rfl (fun W' h => ex_move _)) ?_
    refine PlanSteps.cons (ps_val (v := nv 6 a.l) rfl rfl rfl (fun W' h => ex_loadn (K := 6) (k := 0) (j := 12) (l := a.l) flFp12 rfl (A14.keep h.out) rfl _ rfl)) ?_
    refine PlanSteps.cons (ps_call (v := nv 6 ka.l) rfl rfl rfl (fun W' => ex_call (vs := [nv 6 a.l]) rfl Try.call13 rfl) (fun W' h => fullConj_q ha hka _)) ?_
    refine PlanSteps.cons (ps_call (v := nv 6 [o.n0, o.n1, o.n2, o.n3, o.n4, o.n5, 0, 0, 0, 0, 0, 0]) rfl rfl rfl (fun W' => ex_call (vs := [nv 6 a.l, nv 6 ka.l]) rfl Try.call15 rfl) (fun W' h => fullMul_q ha hka.toB HO _)) ?_
    refine PlanSteps.cons (ps_val (v := nv 6 [0, 0, 0, 0, 0, 0]) rfl rfl rfl (fun W' h => ex_part (K := 6) (k := 6) (j := 6) (l := [o.n0, o.n1, o.n2, o.n3, o.n4, o.n5, 0, 0, 0, 0, 0, 0]) ptFp12_1 rfl rfl)) ?_
    refine PlanSteps.cons (ps_val (v := nv 6 [0, 0, 0, 0, 0, 0]) rfl rfl rfl (fun W' h => ex_build stFp6 (vs := []) rfl (bd06))) ?_
    refine PlanSteps.cons (ps_val (v := .bool true) rfl rfl rfl (fun W' h => ex_eqt (K := 6) (l := [0, 0, 0, 0, 0, 0]) eqFp6 rfl rfl rfl rfl)) ?_
    refine PlanSteps.cons (ps_val (v := .bool true) rfl rfl rfl (fun W' h => ex_pick (r := true) rfl)) ?_
    refine PlanSteps.cons (ps_val (v := .bool true) rfl rfl rfl (fun W' h => ex_move _)) ?_
    refine PlanSteps.cons (ps_val (v := nv 6 [0, 0, 0, 0, 0, 0, 1, 0, 0, 0, 0, 0]) rfl rfl rfl (fun W' h => ex_loadn (K := 6) (k := 0) (j := 12) (l := [0, 0, 0, 0, 0, 0, 1, 0, 0, 0, 0, 0]) flFp12 rfl (N13.keep h.out) rfl _ rfl)) ?_
    refine PlanSteps.cons (ps_val (v := nv 6 [2]) rfl rfl rfl (fun W' h => ex_limb6 (e := 2) (by decide) rfl)) ?_
    refine PlanSteps.cons (ps_call (v := nv 6 [0, 0, 1, 0, 0, 0, 0, 0, 0, 0, 0, 0]) rfl rfl rfl (fun W' => ex_call (vs := [nv 6 [0, 0, 0, 0, 0, 0, 1, 0, 0, 0, 0, 0], nv 6 [2]]) rfl Try.call19 rfl) (fun W' h => HW _)) ?_
    refine PlanSteps.cons (ps_val (v := nv 6 [1]) rfl rfl rfl (fun W' h => ex_one rfl)) ?_
    refine PlanSteps.cons (ps_val (v := nv 6 [1, 0]) rfl rfl rfl (fun W' h => ex_build stFp2 (vs := [(0, nv 6 [1])]) rfl (bdA 1))) ?_
    refine PlanSteps.cons (ps_val (v := nv 6 [0, 0, 1, 0, 0, 0]) rfl rfl rfl (fun W' h => ex_build stFp6 (vs := [(1, nv 6 [1, 0])]) rfl (bd6B 1 0))) ?_
    refine PlanSteps.cons (ps_val (v := nv 6 [0, 0, 1, 0, 0, 0, 0, 0, 0, 0, 0, 0]) rfl rfl rfl (fun W' h => ex_build stFp12 (vs := [(0, nv 6 [0, 0, 1, 0, 0, 0])]) rfl (bd12A 0 0 1 0 0 0))) ?_
    refine PlanSteps.cons (ps_val (v := .bool true) rfl rfl rfl (fun W' h => ex_eqt (K := 6) (l := [0, 0, 1, 0, 0, 0, 0, 0, 0, 0, 0, 0]) eqFp12 rfl rfl rfl rfl)) ?_
    refine PlanSteps.cons (ps_val (v := .bool true) rfl rfl rfl (fun W' h => ex_pick (r := true) rfl)) ?_
    refine PlanSteps.cons (ps_val (v := .bool true) rfl rfl rfl (fun W' h => ex_assign _)) ?_
    exact PlanSteps.nil
  intro w17 hb17
  refine then_n ?_
  have A18 := A14.keep hb17.out
  have A19 := A15.keep hb17.out
  have A20 := N13.keep hb17.out
  have HB21 := below_then HB16 hb17.out
  exact wp_ret (bodyPost_ret (ret_tmp Try.results7 rfl) rfl ⟨rfl, HB21⟩)

end Go.Proofs.Ytodabjelnllkgaa

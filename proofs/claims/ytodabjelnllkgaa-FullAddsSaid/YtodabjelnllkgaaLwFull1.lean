/- What is proved here: the law FullAdds. -/
import Derived.Test.YtodabjelnllkgaaFull2
namespace Go.Proofs.Ytodabjelnllkgaa
open Go.RowKit

set_option maxRecDepth 20000 in
set_option maxHeartbeats 4000000 in
theorem fullAdds_v (a b : N12) (w : World) (la : ∀ x ∈ a.l, x < fpB) (lb : ∀ x ∈ b.l, x < fpB) :
    Calls Try.prog 3 #[nv 6 a.l, nv 6 b.l] w (Is (.bool true) w) := by
  obtain ⟨X, ha⟩ := qb_self a la
  obtain ⟨Y, hb⟩ := qb_self b lb
  obtain ⟨x, hx⟩ := qp_of (X)
  obtain ⟨y, hy⟩ := qp_of (Y)
  obtain ⟨s, hs⟩ := qp_of (E12.add X Y)
  obtain ⟨k, hk⟩ := qp_of (E12.conj X)
  go_enter Try.func3, Try.ntmps3
  refine seq_lit ?_
  refine sq_new (a' := ⟨List.toArray ((nv 6 a.l) :: (nv 6 b.l) :: (.pointer (some ⟨w.heap.size, 0, none⟩)) :: undef :: undef :: undef :: undef :: undef :: undef :: undef :: undef :: undef :: undef :: undef :: undef :: undef :: undef :: undef :: undef :: undef :: undef :: undef :: undef :: undef :: undef :: undef :: undef :: undef :: undef :: undef :: undef :: undef :: undef :: undef :: []), []⟩) (xs := rows 6 a.l) rfl rfl (ex_boxn (K := 6) (l := a.l) rfl) ?_
  intro w1 N1 hb1
  have HB2 := below_then (Below.refl w.heap.size w) hb1
  refine sq_new (a' := ⟨List.toArray ((nv 6 a.l) :: (nv 6 b.l) :: (.pointer (some ⟨w.heap.size, 0, none⟩)) :: (.pointer (some ⟨w1.heap.size, 0, none⟩)) :: undef :: undef :: undef :: undef :: undef :: undef :: undef :: undef :: undef :: undef :: undef :: undef :: undef :: undef :: undef :: undef :: undef :: undef :: undef :: undef :: undef :: undef :: undef :: undef :: undef :: undef :: undef :: undef :: undef :: undef :: []), []⟩) (xs := rows 6 b.l) rfl rfl (ex_boxn (K := 6) (l := b.l) rfl) ?_
  intro w3 N3 hb3
  have A4 := N1.keep hb3
  have HB5 := below_then HB2 hb3
  refine sq_val (a' := ⟨List.toArray ((nv 6 a.l) :: (nv 6 b.l) :: (.pointer (some ⟨w.heap.size, 0, none⟩)) :: (.pointer (some ⟨w1.heap.size, 0, none⟩)) :: (.bool false) :: undef :: undef :: undef :: undef :: undef :: undef :: undef :: undef :: undef :: undef :: undef :: undef :: undef :: undef :: undef :: undef :: undef :: undef :: undef :: undef :: undef :: undef :: undef :: undef :: undef :: undef :: undef :: undef :: undef :: []), []⟩) (v := .bool false) rfl rfl (ex_assign _) ?_
  refine seq_nil ?_
  refine wp_seq (wp_region_two (F := fun γ => ⟨List.toArray ((nv 6 a.l) :: (nv 6 b.l) :: (.pointer (some ⟨w.heap.size, 0, none⟩)) :: (.pointer (some ⟨w1.heap.size, 0, none⟩)) :: (.bool false) :: (.pointer (some ⟨γ.1, 0, none⟩)) :: (.pointer (some ⟨γ.2, 0, none⟩)) :: (nv 6 a.l) :: (nv 6 x.l) :: (nv 6 b.l) :: (nv 6 y.l) :: undef :: undef :: undef :: undef :: undef :: undef :: undef :: undef :: undef :: undef :: undef :: undef :: undef :: undef :: undef :: undef :: undef :: undef :: undef :: undef :: undef :: undef :: undef :: []), []⟩) 30 30 6 4 5 6 7 [0, 0, 0, 0, 0, 0, 0, 0, 0, 0, 0, 0] [0, 0, 0, 0, 0, 0, 0, 0, 0, 0, 0, 0] x.l y.l [(5, .pointer (some ⟨0, 0, none⟩)), (6, .pointer (some ⟨0, 0, none⟩)), (7, nv 6 a.l), (8, nv 6 x.l), (9, nv 6 b.l), (10, nv 6 y.l)] (by kernel_rfl) (by kernel_rfl) (by kernel_rfl) (by kernel_rfl) rfl (by simp only [putAll, List.setIfInBounds_toArray, List.set_cons_zero, List.set_cons_succ]) rfl rfl rfl rfl ?_ ?_)
  · refine GSteps.cons (gs_val (v := nv 6 a.l) rfl (fun γ => rfl) (fun γ => rfl) (fun γ W' h => ex_loadn (K := 6) (k := 0) (j := 12) (l := a.l) flFp12 rfl (A4.keep h.out) rfl _ rfl) rfl rfl rfl rfl) ?_
    refine GSteps.cons (gs_call (v := nv 6 x.l) rfl (fun γ => rfl) (fun γ => rfl) (fun γ W' => ex_call (vs := [nv 6 a.l]) rfl Try.call8 rfl) (fun W' h => r7Clean_q ha hx _) rfl rfl rfl rfl) ?_
    refine GSteps.cons (gs_val (v := nv 6 b.l) rfl (fun γ => rfl) (fun γ => rfl) (fun γ W' h => ex_loadn (K := 6) (k := 0) (j := 12) (l := b.l) flFp12 rfl (N3.keep h.out) rfl _ rfl) rfl rfl rfl rfl) ?_
    refine GSteps.cons (gs_call (v := nv 6 y.l) rfl (fun γ => rfl) (fun γ => rfl) (fun γ W' => ex_call (vs := [nv 6 b.l]) rfl Try.call8 rfl) (fun W' h => r7Clean_q hb hy _) rfl rfl rfl rfl) ?_
    refine GSteps.cons (gs_new1 (fun γ => rfl) (fun γ n => rfl) (fun γ W' => ex_alloc zFp12) rfl rfl rfl rfl (by kernel_rfl)) ?_
    refine GSteps.cons (gs_new2 (fun γ => rfl) (fun γ n => rfl) (fun γ W' => ex_alloc zFp12) rfl rfl rfl rfl (by kernel_rfl)) ?_
    refine GSteps.cons (gs_store1 rfl (fun γ => rfl) rfl (fun γ W' hA => ex_storen (K := 6) (l := [0, 0, 0, 0, 0, 0, 0, 0, 0, 0, 0, 0]) (m := x.l) flFp12 rfl rfl hA rfl) rfl rfl rfl rfl rfl (by kernel_rfl) (by kernel_rfl)) ?_
    refine GSteps.cons (gs_store2 rfl (fun γ => rfl) rfl (fun γ W' hA => ex_storen (K := 6) (l := [0, 0, 0, 0, 0, 0, 0, 0, 0, 0, 0, 0]) (m := y.l) flFp12 rfl rfl hA rfl) rfl rfl rfl rfl rfl (by kernel_rfl) (by kernel_rfl)) ?_
    exact GSteps.nil
  intro g7 h7 w7 hb7 le7 lf7 ne7 N7 M7
  refine then_n ?_
  have A8 := A4.keep hb7.out
  have A9 := N3.keep hb7.out
  have HB10 := below_then HB5 hb7.out
  refine wp_seq (wp_region_p (F := ⟨List.toArray ((nv 6 a.l) :: (nv 6 b.l) :: (.pointer (some ⟨w.heap.size, 0, none⟩)) :: (.pointer (some ⟨w1.heap.size, 0, none⟩)) :: (.bool true) :: (.pointer (some ⟨g7, 0, none⟩)) :: (.pointer (some ⟨h7, 0, none⟩)) :: (nv 6 a.l) :: (nv 6 x.l) :: (nv 6 b.l) :: (nv 6 y.l) :: (.bool true) :: (.bool true) :: (nv 6 a.l) :: (nv 6 x.l) :: (nv 6 x.l) :: (.bool true) :: (.bool true) :: (.bool true) :: (nv 6 a.l) :: (nv 6 b.l) :: (nv 6 s.l) :: (nv 6 x.l) :: (nv 6 y.l) :: (nv 6 s.l) :: (.bool true) :: (.bool true) :: (.bool true) :: (nv 6 a.l) :: (nv 6 k.l) :: (nv 6 x.l) :: (nv 6 k.l) :: (.bool true) :: (.bool true) :: []), []⟩) (S := Bel w7) [(11, .bool true), (12, .bool true), (13, nv 6 a.l), (14, nv 6 x.l), (15, nv 6 x.l), (16, .bool true), (17, .bool true), (18, .bool true), (19, nv 6 a.l), (20, nv 6 b.l), (21, nv 6 s.l), (22, nv 6 x.l), (23, nv 6 y.l), (24, nv 6 s.l), (25, .bool true), (26, .bool true), (27, .bool true), (28, nv 6 a.l), (29, nv 6 k.l), (30, nv 6 x.l), (31, nv 6 k.l), (32, .bool true), (33, .bool true), (4, .bool true)] (by kernel_rfl) (by kernel_rfl) (by kernel_rfl) (by kernel_rfl) rfl (by simp only [putAll, List.setIfInBounds_toArray, List.set_cons_zero, List.set_cons_succ]) (Bel.start _) ?_ ?_)
  · refine PlanSteps.cons (ps_call (v := .bool true) rfl rfl rfl (fun W' => ex_call (vs := []) rfl Try.call9 rfl) (fun W' h => fullalive_w _)) ?_
    refine PlanSteps.cons (ps_val (v := .bool true) rfl rfl rfl (fun W' h => ex_move _)) ?_
    refine PlanSteps.cons (ps_val (v := nv 6 a.l) rfl rfl rfl (fun W' h => ex_loadn (K := 6) (k := 0) (j := 12) (l := a.l) flFp12 rfl (A8.keep h.out) rfl _ rfl)) ?_
    refine PlanSteps.cons (ps_call (v := nv 6 x.l) rfl rfl rfl (fun W' => ex_call (vs := [nv 6 a.l]) rfl Try.call10 rfl) (fun W' h => fullClean_q ha hx _)) ?_
    refine PlanSteps.cons (ps_val (v := nv 6 x.l) rfl rfl rfl (fun W' h => ex_loadn (K := 6) (k := 0) (j := 12) (l := x.l) flFp12 rfl (N7.keep h.out) rfl _ rfl)) ?_
    refine PlanSteps.cons (ps_val (v := .bool true) rfl rfl rfl (fun W' h => ex_eqt (K := 6) (l := x.l) eqFp12 rfl rfl rfl rfl)) ?_
    refine PlanSteps.cons (ps_val (v := .bool true) rfl rfl rfl (fun W' h => ex_pick (r := true) rfl)) ?_
    refine PlanSteps.cons (ps_val (v := .bool true) rfl rfl rfl (fun W' h => ex_move _)) ?_
    refine PlanSteps.cons (ps_val (v := nv 6 a.l) rfl rfl rfl (fun W' h => ex_loadn (K := 6) (k := 0) (j := 12) (l := a.l) flFp12 rfl (A8.keep h.out) rfl _ rfl)) ?_
    refine PlanSteps.cons (ps_val (v := nv 6 b.l) rfl rfl rfl (fun W' h => ex_loadn (K := 6) (k := 0) (j := 12) (l := b.l) flFp12 rfl (A9.keep h.out) rfl _ rfl)) ?_
    refine PlanSteps.cons (ps_call (v := nv 6 s.l) rfl rfl rfl (fun W' => ex_call (vs := [nv 6 a.l, nv 6 b.l]) rfl Try.call11 rfl) (fun W' h => fullAdd_q ha hb hs _)) ?_
    refine PlanSteps.cons (ps_val (v := nv 6 x.l) rfl rfl rfl (fun W' h => ex_loadn (K := 6) (k := 0) (j := 12) (l := x.l) flFp12 rfl (N7.keep h.out) rfl _ rfl)) ?_
    refine PlanSteps.cons (ps_val (v := nv 6 y.l) rfl rfl rfl (fun W' h => ex_loadn (K := 6) (k := 0) (j := 12) (l := y.l) flFp12 rfl (M7.keep h.out) rfl _ rfl)) ?_
    refine PlanSteps.cons (ps_call (v := nv 6 s.l) rfl rfl rfl (fun W' => ex_call (vs := [nv 6 x.l, nv 6 y.l]) rfl Try.call12 rfl) (fun W' h => r7Add_q hx hy hs _)) ?_
    refine PlanSteps.cons (ps_val (v := .bool true) rfl rfl rfl (fun W' h => ex_eqt (K := 6) (l := s.l) eqFp12 rfl rfl rfl rfl)) ?_
    refine PlanSteps.cons (ps_val (v := .bool true) rfl rfl rfl (fun W' h => ex_pick (r := true) rfl)) ?_
    refine PlanSteps.cons (ps_val (v := .bool true) rfl rfl rfl (fun W' h => ex_move _)) ?_
    refine PlanSteps.cons (ps_val (v := nv 6 a.l) rfl rfl rfl (fun W' h => ex_loadn (K := 6) (k := 0) (j := 12) (l := a.l) flFp12 rfl (A8.keep h.out) rfl _ rfl)) ?_
    refine PlanSteps.cons (ps_call (v := nv 6 k.l) rfl rfl rfl (fun W' => ex_call (vs := [nv 6 a.l]) rfl Try.call13 rfl) (fun W' h => fullConj_q ha hk _)) ?_
    refine PlanSteps.cons (ps_val (v := nv 6 x.l) rfl rfl rfl (fun W' h => ex_loadn (K := 6) (k := 0) (j := 12) (l := x.l) flFp12 rfl (N7.keep h.out) rfl _ rfl)) ?_
    refine PlanSteps.cons (ps_call (v := nv 6 k.l) rfl rfl rfl (fun W' => ex_call (vs := [nv 6 x.l]) rfl Try.call14 rfl) (fun W' h => r7Conj_q hx hk _)) ?_
    refine PlanSteps.cons (ps_val (v := .bool true) rfl rfl rfl (fun W' h => ex_eqt (K := 6) (l := k.l) eqFp12 rfl rfl rfl rfl)) ?_
    refine PlanSteps.cons (ps_val (v := .bool true) rfl rfl rfl (fun W' h => ex_pick (r := true) rfl)) ?_
    refine PlanSteps.cons (ps_val (v := .bool true) rfl rfl rfl (fun W' h => ex_assign _)) ?_
    exact PlanSteps.nil
  intro w11 hb11
  refine then_n ?_
  have A12 := A8.keep hb11.out
  have A13 := A9.keep hb11.out
  have A14 := N7.keep hb11.out
  have A15 := M7.keep hb11.out
  have HB16 := below_then HB10 hb11.out
  exact wp_ret (bodyPost_ret (ret_tmp Try.results3 rfl) rfl ⟨rfl, HB16⟩)

end Go.Proofs.Ytodabjelnllkgaa

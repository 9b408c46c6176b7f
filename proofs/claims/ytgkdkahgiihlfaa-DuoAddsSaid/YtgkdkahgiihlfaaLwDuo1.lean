/- What is proved here: the laws DuoAdds and DuoTurns. -/
import Derived.Test.YtgkdkahgiihlfaaDuo1
namespace Go.Proofs.Ytgkdkahgiihlfaa
open Go.RowKit

set_option maxRecDepth 20000 in
set_option maxHeartbeats 400000 in
theorem duoAdds_v (a b c d : Nat) (w : World) (ha : a < fpB) (hb : b < fpB) (hc : c < fpB) (hd : d < fpB) :
    Calls Try.prog 6 #[nv 6 [a, b], nv 6 [c, d]] w (Is (.bool true) w) := by
  obtain ⟨z1, ez1⟩ : ∃ z, z = (pCl a) := ⟨_, rfl⟩
  have bz1 : z1 < pN := by rw [ez1]; exact pCl_P _
  obtain ⟨z2, ez2⟩ : ∃ z, z = (pCl b) := ⟨_, rfl⟩
  have bz2 : z2 < pN := by rw [ez2]; exact pCl_P _
  obtain ⟨z3, ez3⟩ : ∃ z, z = (pCl c) := ⟨_, rfl⟩
  have bz3 : z3 < pN := by rw [ez3]; exact pCl_P _
  obtain ⟨z4, ez4⟩ : ∃ z, z = (pCl d) := ⟨_, rfl⟩
  have bz4 : z4 < pN := by rw [ez4]; exact pCl_P _
  obtain ⟨z5, ez5⟩ : ∃ z, z = (pAdd a c) := ⟨_, rfl⟩
  have bz5 : z5 < pN := by rw [ez5]; exact pAdd_P _ _
  obtain ⟨z6, ez6⟩ : ∃ z, z = (pAdd b d) := ⟨_, rfl⟩
  have bz6 : z6 < pN := by rw [ez6]; exact pAdd_P _ _
  have q1 : z5 = (pAdd z1 z3) := (rep_uniq (Nat.lt_of_le_of_lt (Nat.le_of_eq ez5) (pAdd_P _ _)) (pAdd_P _ _) (rep_eq ez5 (rep_add (rep_self a) (rep_self c))) (rep_add (rep_eq ez1 (rep_cl (rep_self a))) (rep_eq ez3 (rep_cl (rep_self c)))) (by grind))
  have q2 : z6 = (pAdd z2 z4) := (rep_uniq (Nat.lt_of_le_of_lt (Nat.le_of_eq ez6) (pAdd_P _ _)) (pAdd_P _ _) (rep_eq ez6 (rep_add (rep_self b) (rep_self d))) (rep_add (rep_eq ez2 (rep_cl (rep_self b))) (rep_eq ez4 (rep_cl (rep_self d)))) (by grind))
  obtain ⟨z7, ez7⟩ : ∃ z, z = (pSub a c) := ⟨_, rfl⟩
  have bz7 : z7 < pN := by rw [ez7]; exact pSub_P _ _
  obtain ⟨z8, ez8⟩ : ∃ z, z = (pSub b d) := ⟨_, rfl⟩
  have bz8 : z8 < pN := by rw [ez8]; exact pSub_P _ _
  have q3 : z7 = (pAdd z1 (pNeg z3)) := (rep_uniq (Nat.lt_of_le_of_lt (Nat.le_of_eq ez7) (pSub_P _ _)) (pAdd_P _ _) (rep_eq ez7 (rep_sub (rep_self a) (rep_self c))) (rep_add (rep_eq ez1 (rep_cl (rep_self a))) (rep_neg (rep_eq ez3 (rep_cl (rep_self c))))) (by grind))
  have q4 : z8 = (pAdd z2 (pNeg z4)) := (rep_uniq (Nat.lt_of_le_of_lt (Nat.le_of_eq ez8) (pSub_P _ _)) (pAdd_P _ _) (rep_eq ez8 (rep_sub (rep_self b) (rep_self d))) (rep_add (rep_eq ez2 (rep_cl (rep_self b))) (rep_neg (rep_eq ez4 (rep_cl (rep_self d))))) (by grind))
  obtain ⟨z9, ez9⟩ : ∃ z, z = (pNeg a) := ⟨_, rfl⟩
  have bz9 : z9 < pN := by rw [ez9]; exact pNeg_P _
  obtain ⟨z10, ez10⟩ : ∃ z, z = (pNeg b) := ⟨_, rfl⟩
  have bz10 : z10 < pN := by rw [ez10]; exact pNeg_P _
  have q5 : z9 = (pNeg z1) := (rep_uniq (Nat.lt_of_le_of_lt (Nat.le_of_eq ez9) (pNeg_P _)) (pNeg_P _) (rep_eq ez9 (rep_neg (rep_self a))) (rep_neg (rep_eq ez1 (rep_cl (rep_self a)))) (by grind))
  have q6 : z10 = (pNeg z2) := (rep_uniq (Nat.lt_of_le_of_lt (Nat.le_of_eq ez10) (pNeg_P _)) (pNeg_P _) (rep_eq ez10 (rep_neg (rep_self b))) (rep_neg (rep_eq ez2 (rep_cl (rep_self b)))) (by grind))
  have q7 : z10 = (pNeg z2) := (rep_uniq (Nat.lt_of_le_of_lt (Nat.le_of_eq ez10) (pNeg_P _)) (pNeg_P _) (rep_eq ez10 (rep_neg (rep_self b))) (rep_neg (rep_eq ez2 (rep_cl (rep_self b)))) (by grind))
  go_enter Try.func6, Try.ntmps6
  refine seq_lit ?_
  refine sq_new (a' := ⟨#[nv 6 [a, b], nv 6 [c, d], .pointer (some ⟨w.heap.size, 0, none⟩), undef, undef, undef, undef, undef, undef, undef, undef, undef, undef, undef, undef, undef, undef, undef, undef, undef, undef, undef, undef, undef, undef, undef, undef, undef, undef, undef, undef, undef, undef, undef, undef, undef, undef, undef, undef, undef, undef, undef, undef, undef, undef, undef, undef, undef, undef, undef], []⟩) (xs := rows 6 [a, b]) rfl rfl (ex_boxn (K := 6) (l := [a, b]) rfl) ?_
  intro w1 N1 hb1
  have HB2 := below_then (Below.refl w.heap.size w) hb1
  refine sq_new (a' := ⟨#[nv 6 [a, b], nv 6 [c, d], .pointer (some ⟨w.heap.size, 0, none⟩), .pointer (some ⟨w1.heap.size, 0, none⟩), undef, undef, undef, undef, undef, undef, undef, undef, undef, undef, undef, undef, undef, undef, undef, undef, undef, undef, undef, undef, undef, undef, undef, undef, undef, undef, undef, undef, undef, undef, undef, undef, undef, undef, undef, undef, undef, undef, undef, undef, undef, undef, undef, undef, undef, undef], []⟩) (xs := rows 6 [c, d]) rfl rfl (ex_boxn (K := 6) (l := [c, d]) rfl) ?_
  intro w3 N3 hb3
  have A4 := N1.keep hb3
  have HB5 := below_then HB2 hb3
  refine sq_val (a' := ⟨#[nv 6 [a, b], nv 6 [c, d], .pointer (some ⟨w.heap.size, 0, none⟩), .pointer (some ⟨w1.heap.size, 0, none⟩), .bool false, undef, undef, undef, undef, undef, undef, undef, undef, undef, undef, undef, undef, undef, undef, undef, undef, undef, undef, undef, undef, undef, undef, undef, undef, undef, undef, undef, undef, undef, undef, undef, undef, undef, undef, undef, undef, undef, undef, undef, undef, undef, undef, undef, undef, undef], []⟩) (v := .bool false) rfl rfl (ex_assign _) ?_
  refine seq_nil ?_
  refine wp_seq (wp_region_two (F := fun γ => ⟨#[nv 6 [a, b], nv 6 [c, d], .pointer (some ⟨w.heap.size, 0, none⟩), .pointer (some ⟨w1.heap.size, 0, none⟩), .bool false, .pointer (some ⟨γ.1, 0, none⟩), .pointer (some ⟨γ.2, 0, none⟩), nv 6 [a, b], nv 6 [z1, z2], nv 6 [c, d], nv 6 [z3, z4], undef, undef, undef, undef, undef, undef, undef, undef, undef, undef, undef, undef, undef, undef, undef, undef, undef, undef, undef, undef, undef, undef, undef, undef, undef, undef, undef, undef, undef, undef, undef, undef, undef, undef, undef, undef, undef, undef, undef], []⟩) 37 37 6 4 5 6 7 [0, 0] [0, 0] [z1, z2] [z3, z4] [(5, .pointer (some ⟨0, 0, none⟩)), (6, .pointer (some ⟨0, 0, none⟩)), (7, nv 6 [a, b]), (8, nv 6 [z1, z2]), (9, nv 6 [c, d]), (10, nv 6 [z3, z4])] (by kernel_rfl) (by kernel_rfl) (by kernel_rfl) (by kernel_rfl) rfl (by simp only [putAll, List.setIfInBounds_toArray, List.set_cons_zero, List.set_cons_succ]) rfl rfl rfl rfl ?_ ?_)
  · refine GSteps.cons (gs_val (v := nv 6 [a, b]) rfl (fun γ => rfl) (fun γ => rfl) (fun γ W' h => ex_loadn (K := 6) (k := 0) (j := 2) (l := [a, b]) flFp2 rfl (A4.keep h.out) rfl _ rfl) rfl rfl rfl rfl) ?_
    refine GSteps.cons (gs_call (v := nv 6 [z1, z2]) rfl (fun γ => rfl) (fun γ => rfl) (fun γ W' => ex_call (vs := [nv 6 [a, b]]) rfl Try.call29 rfl) (fun W' h => r5Clean_e a b _ ha hb z1 z2 ez1 ez2) rfl rfl rfl rfl) ?_
    refine GSteps.cons (gs_val (v := nv 6 [c, d]) rfl (fun γ => rfl) (fun γ => rfl) (fun γ W' h => ex_loadn (K := 6) (k := 0) (j := 2) (l := [c, d]) flFp2 rfl (N3.keep h.out) rfl _ rfl) rfl rfl rfl rfl) ?_
    refine GSteps.cons (gs_call (v := nv 6 [z3, z4]) rfl (fun γ => rfl) (fun γ => rfl) (fun γ W' => ex_call (vs := [nv 6 [c, d]]) rfl Try.call29 rfl) (fun W' h => r5Clean_e c d _ hc hd z3 z4 ez3 ez4) rfl rfl rfl rfl) ?_
    refine GSteps.cons (gs_new1 (fun γ => rfl) (fun γ n => rfl) (fun γ W' => ex_alloc zFp2) rfl rfl rfl rfl (by kernel_rfl)) ?_
    refine GSteps.cons (gs_new2 (fun γ => rfl) (fun γ n => rfl) (fun γ W' => ex_alloc zFp2) rfl rfl rfl rfl (by kernel_rfl)) ?_
    refine GSteps.cons (gs_store1 rfl (fun γ => rfl) rfl (fun γ W' hA => ex_storen (K := 6) (l := [0, 0]) (m := [z1, z2]) flFp2 rfl rfl hA rfl) rfl rfl rfl rfl rfl (by kernel_rfl) (by kernel_rfl)) ?_
    refine GSteps.cons (gs_store2 rfl (fun γ => rfl) rfl (fun γ W' hA => ex_storen (K := 6) (l := [0, 0]) (m := [z3, z4]) flFp2 rfl rfl hA rfl) rfl rfl rfl rfl rfl (by kernel_rfl) (by kernel_rfl)) ?_
    exact GSteps.nil
  intro g7 h7 w7 hb7 le7 lf7 ne7 N7 M7
  refine then_n ?_
  have A8 := A4.keep hb7.out
  have A9 := N3.keep hb7.out
  have HB10 := below_then HB5 hb7.out
  refine wp_seq (wp_region_p (F := ⟨#[nv 6 [a, b], nv 6 [c, d], .pointer (some ⟨w.heap.size, 0, none⟩), .pointer (some ⟨w1.heap.size, 0, none⟩), .bool true, .pointer (some ⟨g7, 0, none⟩), .pointer (some ⟨h7, 0, none⟩), nv 6 [a, b], nv 6 [z1, z2], nv 6 [c, d], nv 6 [z3, z4], .bool true, .bool true, nv 6 [a, b], nv 6 [z1, z2], nv 6 [z1, z2], .bool true, .bool true, .bool true, nv 6 [a, b], nv 6 [c, d], nv 6 [z5, z6], nv 6 [z1, z2], nv 6 [z3, z4], nv 6 [z5, z6], .bool true, .bool true, .bool true, nv 6 [a, b], nv 6 [c, d], nv 6 [z7, z8], nv 6 [z1, z2], nv 6 [z3, z4], nv 6 [z7, z8], .bool true, .bool true, .bool true, nv 6 [a, b], nv 6 [z9, z10], nv 6 [z1, z2], nv 6 [z9, z10], .bool true, .bool true, .bool true, nv 6 [a, b], nv 6 [z1, z10], nv 6 [z1, z2], nv 6 [z1, z10], .bool true, .bool true], []⟩) (S := Bel w7) [(11, .bool true), (12, .bool true), (13, nv 6 [a, b]), (14, nv 6 [z1, z2]), (15, nv 6 [z1, z2]), (16, .bool true), (17, .bool true), (18, .bool true), (19, nv 6 [a, b]), (20, nv 6 [c, d]), (21, nv 6 [z5, z6]), (22, nv 6 [z1, z2]), (23, nv 6 [z3, z4]), (24, nv 6 [z5, z6]), (25, .bool true), (26, .bool true), (27, .bool true), (28, nv 6 [a, b]), (29, nv 6 [c, d]), (30, nv 6 [z7, z8]), (31, nv 6 [z1, z2]), (32, nv 6 [z3, z4]), (33, nv 6 [z7, z8]), (34, .bool true), (35, .bool true), (36, .bool true), (37, nv 6 [a, b]), (38, nv 6 [z9, z10]), (39, nv 6 [z1, z2]), (40, nv 6 [z9, z10]), (41, .bool true), (42, .bool true), (43, .bool true), (44, nv 6 [a, b]), (45, nv 6 [z1, z10]), (46, nv 6 [z1, z2]), (47, nv 6 [z1, z10]), (48, .bool true), (49, .bool true), (4, .bool true)] (by kernel_rfl) (by kernel_rfl) (by kernel_rfl) (by kernel_rfl) rfl (by simp only [putAll, List.setIfInBounds_toArray, List.set_cons_zero, List.set_cons_succ]) (Bel.start _) ?_ ?_)
  · refine PlanSteps.cons (ps_call (v := .bool true) rfl rfl rfl (fun W' => ex_call (vs := []) rfl Try.call30 rfl) (fun W' h => duoalive_v _)) ?_
    refine PlanSteps.cons (ps_val (v := .bool true) rfl rfl rfl (fun W' h => ex_move _)) ?_
    refine PlanSteps.cons (ps_val (v := nv 6 [a, b]) rfl rfl rfl (fun W' h => ex_loadn (K := 6) (k := 0) (j := 2) (l := [a, b]) flFp2 rfl (A8.keep h.out) rfl _ rfl)) ?_
    refine PlanSteps.cons (ps_call (v := nv 6 [z1, z2]) rfl rfl rfl (fun W' => ex_call (vs := [nv 6 [a, b]]) rfl Try.call31 rfl) (fun W' h => duoClean_e a b _ ha hb z1 z2 ez1 ez2)) ?_
    refine PlanSteps.cons (ps_val (v := nv 6 [z1, z2]) rfl rfl rfl (fun W' h => ex_loadn (K := 6) (k := 0) (j := 2) (l := [z1, z2]) flFp2 rfl (N7.keep h.out) rfl _ rfl)) ?_
    refine PlanSteps.cons (ps_val (v := .bool true) rfl rfl rfl (fun W' h => ex_eqt (K := 6) (l := [z1, z2]) eqFp2 rfl rfl rfl rfl)) ?_
    refine PlanSteps.cons (ps_val (v := .bool true) rfl rfl rfl (fun W' h => ex_pick (r := true) rfl)) ?_
    refine PlanSteps.cons (ps_val (v := .bool true) rfl rfl rfl (fun W' h => ex_move _)) ?_
    refine PlanSteps.cons (ps_val (v := nv 6 [a, b]) rfl rfl rfl (fun W' h => ex_loadn (K := 6) (k := 0) (j := 2) (l := [a, b]) flFp2 rfl (A8.keep h.out) rfl _ rfl)) ?_
    refine PlanSteps.cons (ps_val (v := nv 6 [c, d]) rfl rfl rfl (fun W' h => ex_loadn (K := 6) (k := 0) (j := 2) (l := [c, d]) flFp2 rfl (A9.keep h.out) rfl _ rfl)) ?_
    refine PlanSteps.cons (ps_call (v := nv 6 [z5, z6]) rfl rfl rfl (fun W' => ex_call (vs := [nv 6 [a, b], nv 6 [c, d]]) rfl Try.call32 rfl) (fun W' h => duoAdd_e a b c d _ ha hb hc hd z5 z6 ez5 ez6)) ?_
    refine PlanSteps.cons (ps_val (v := nv 6 [z1, z2]) rfl rfl rfl (fun W' h => ex_loadn (K := 6) (k := 0) (j := 2) (l := [z1, z2]) flFp2 rfl (N7.keep h.out) rfl _ rfl)) ?_
    refine PlanSteps.cons (ps_val (v := nv 6 [z3, z4]) rfl rfl rfl (fun W' h => ex_loadn (K := 6) (k := 0) (j := 2) (l := [z3, z4]) flFp2 rfl (M7.keep h.out) rfl _ rfl)) ?_
    refine PlanSteps.cons (ps_call (v := nv 6 [z5, z6]) rfl rfl rfl (fun W' => ex_call (vs := [nv 6 [z1, z2], nv 6 [z3, z4]]) rfl Try.call33 rfl) (fun W' h => r5Add_e z1 z2 z3 z4 _ bz1 bz2 bz3 bz4 z5 z6 q1 q2)) ?_
    refine PlanSteps.cons (ps_val (v := .bool true) rfl rfl rfl (fun W' h => ex_eqt (K := 6) (l := [z5, z6]) eqFp2 rfl rfl rfl rfl)) ?_
    refine PlanSteps.cons (ps_val (v := .bool true) rfl rfl rfl (fun W' h => ex_pick (r := true) rfl)) ?_
    refine PlanSteps.cons (ps_val (v := .bool true) rfl rfl rfl (fun W' h => ex_move _)) ?_
    refine PlanSteps.cons (ps_val (v := nv 6 [a, b]) rfl rfl rfl (fun W' h => ex_loadn (K := 6) (k := 0) (j := 2) (l := [a, b]) flFp2 rfl (A8.keep h.out) rfl _ rfl)) ?_
    refine PlanSteps.cons (ps_val (v := nv 6 [c, d]) rfl rfl rfl (fun W' h => ex_loadn (K := 6) (k := 0) (j := 2) (l := [c, d]) flFp2 rfl (A9.keep h.out) rfl _ rfl)) ?_
    refine PlanSteps.cons (ps_call (v := nv 6 [z7, z8]) rfl rfl rfl (fun W' => ex_call (vs := [nv 6 [a, b], nv 6 [c, d]]) rfl Try.call34 rfl) (fun W' h => duoSub_e a b c d _ ha hb hc hd z7 z8 ez7 ez8)) ?_
    refine PlanSteps.cons (ps_val (v := nv 6 [z1, z2]) rfl rfl rfl (fun W' h => ex_loadn (K := 6) (k := 0) (j := 2) (l := [z1, z2]) flFp2 rfl (N7.keep h.out) rfl _ rfl)) ?_
    refine PlanSteps.cons (ps_val (v := nv 6 [z3, z4]) rfl rfl rfl (fun W' h => ex_loadn (K := 6) (k := 0) (j := 2) (l := [z3, z4]) flFp2 rfl (M7.keep h.out) rfl _ rfl)) ?_
    refine PlanSteps.cons (ps_call (v := nv 6 [z7, z8]) rfl rfl rfl (fun W' => ex_call (vs := [nv 6 [z1, z2], nv 6 [z3, z4]]) rfl Try.call35 rfl) (fun W' h => r5Sub_e z1 z2 z3 z4 _ bz1 bz2 bz3 bz4 z7 z8 q3 q4)) ?_
    refine PlanSteps.cons (ps_val (v := .bool true) rfl rfl rfl (fun W' h => ex_eqt (K := 6) (l := [z7, z8]) eqFp2 rfl rfl rfl rfl)) ?_
    refine PlanSteps.cons (ps_val (v := .bool true) rfl rfl rfl (fun W' h => ex_pick (r := true) rfl)) ?_
    refine PlanSteps.cons (ps_val (v := .bool true) rfl rfl rfl (fun W' h => ex_move _)) ?_
    refine PlanSteps.cons (ps_val (v := nv 6 [a, b]) rfl rfl rfl (fun W' h => ex_loadn (K := 6) (k := 0) (j := 2) (l := [a, b]) flFp2 rfl (A8.keep h.out) rfl _ rfl)) ?_
    refine PlanSteps.cons (ps_call (v := nv 6 [z9, z10]) rfl rfl rfl (fun W' => ex_call (vs := [nv 6 [a, b]]) rfl Try.call36 rfl) (fun W' h => duoNeg_e a b _ ha hb z9 z10 ez9 ez10)) ?_
    refine PlanSteps.cons (ps_val (v := nv 6 [z1, z2]) rfl rfl rfl (fun W' h => ex_loadn (K := 6) (k := 0) (j := 2) (l := [z1, z2]) flFp2 rfl (N7.keep h.out) rfl _ rfl)) ?_
    refine PlanSteps.cons (ps_call (v := nv 6 [z9, z10]) rfl rfl rfl (fun W' => ex_call (vs := [nv 6 [z1, z2]]) rfl Try.call37 rfl) (fun W' h => r5Neg_e z1 z2 _ bz1 bz2 z9 z10 q5 q6)) ?_
    refine PlanSteps.cons (ps_val (v := .bool true) rfl rfl rfl (fun W' h => ex_eqt (K := 6) (l := [z9, z10]) eqFp2 rfl rfl rfl rfl)) ?_
    refine PlanSteps.cons (ps_val (v := .bool true) rfl rfl rfl (fun W' h => ex_pick (r := true) rfl)) ?_
    refine PlanSteps.cons (ps_val (v := .bool true) rfl rfl rfl (fun W' h => ex_move _)) ?_
    refine PlanSteps.cons (ps_val (v := nv 6 [a, b]) rfl rfl rfl (fun W' h => ex_loadn (K := 6) (k := 0) (j := 2) (l := [a, b]) flFp2 rfl (A8.keep h.out) rfl _ rfl)) ?_
    refine PlanSteps.cons (ps_call (v := nv 6 [z1, z10]) rfl rfl rfl (fun W' => ex_call (vs := [nv 6 [a, b]]) rfl Try.call38 rfl) (fun W' h => duoConj_e a b _ ha hb z1 z10 ez1 ez10)) ?_
    refine PlanSteps.cons (ps_val (v := nv 6 [z1, z2]) rfl rfl rfl (fun W' h => ex_loadn (K := 6) (k := 0) (j := 2) (l := [z1, z2]) flFp2 rfl (N7.keep h.out) rfl _ rfl)) ?_
    refine PlanSteps.cons (ps_call (v := nv 6 [z1, z10]) rfl rfl rfl (fun W' => ex_call (vs := [nv 6 [z1, z2]]) rfl Try.call39 rfl) (fun W' h => r5Conj_e z1 z2 _ bz1 bz2 z1 z10 rfl q7)) ?_
    refine PlanSteps.cons (ps_val (v := .bool true) rfl rfl rfl (fun W' h => ex_eqt (K := 6) (l := [z1, z10]) eqFp2 rfl rfl rfl rfl)) ?_
    refine PlanSteps.cons (ps_val (v := .bool true) rfl rfl rfl (fun W' h => ex_pick (r := true) rfl)) ?_
    refine PlanSteps.cons (ps_val (v := .bool true) rfl rfl rfl (fun W' h => ex_assign _)) ?_
    exact PlanSteps.nil
  intro w11 hb11
  refine then_n ?_
  have A12 := A8.keep hb11.out
  have A13 := A9.keep hb11.out
  have A14 := N7.keep hb11.out
  have A15 := M7.keep hb11.out
  have HB16 := below_then HB10 hb11.out
  exact wp_ret (bodyPost_ret (ret_tmp Try.results6 rfl) rfl ⟨rfl, HB16⟩)

set_option maxRecDepth 20000 in
set_option maxHeartbeats 400000 in
theorem duoTurns_v (a b c d : Nat) (w : World) (ha : a < fpB) (hb : b < fpB) (hc : c < fpB) (hd : d < fpB) :
    Calls Try.prog 10 #[nv 6 [a, b], nv 6 [c, d]] w (Is (.bool true) w) := by
  obtain ⟨z1, ez1⟩ : ∃ z, z = (pCl a) := ⟨_, rfl⟩
  have bz1 : z1 < pN := by rw [ez1]; exact pCl_P _
  obtain ⟨z2, ez2⟩ : ∃ z, z = (pNeg b) := ⟨_, rfl⟩
  have bz2 : z2 < pN := by rw [ez2]; exact pNeg_P _
  obtain ⟨z3, ez3⟩ : ∃ z, z = (pSub (pMul a z1) (pMul b z2)) := ⟨_, rfl⟩
  have bz3 : z3 < pN := by rw [ez3]; exact pSub_P _ _
  have q1 : 0 = (pAdd (pMul a z2) (pMul b z1)) := (rep_uniq zero_P (pAdd_P _ _) rep_0 (rep_add (rep_mul (rep_self a) (rep_eq ez2 (rep_neg (rep_self b)))) (rep_mul (rep_self b) (rep_eq ez1 (rep_cl (rep_self a))))) (by grind))
  obtain ⟨z4, ez4⟩ : ∃ z, z = (pMul a a) := ⟨_, rfl⟩
  have bz4 : z4 < pN := by rw [ez4]; exact pMul_P _ _
  obtain ⟨z5, ez5⟩ : ∃ z, z = (pMul b b) := ⟨_, rfl⟩
  have bz5 : z5 < pN := by rw [ez5]; exact pMul_P _ _
  have q2 : z3 = (pAdd z4 z5) := (rep_uniq (Nat.lt_of_le_of_lt (Nat.le_of_eq ez3) (pSub_P _ _)) (pAdd_P _ _) (rep_eq ez3 (rep_sub (rep_mul (rep_self a) (rep_eq ez1 (rep_cl (rep_self a)))) (rep_mul (rep_self b) (rep_eq ez2 (rep_neg (rep_self b)))))) (rep_add (rep_eq ez4 (rep_mul (rep_self a) (rep_self a))) (rep_eq ez5 (rep_mul (rep_self b) (rep_self b)))) (by grind))
  obtain ⟨z6, ez6⟩ : ∃ z, z = (pAdd a c) := ⟨_, rfl⟩
  have bz6 : z6 < pN := by rw [ez6]; exact pAdd_P _ _
  obtain ⟨z7, ez7⟩ : ∃ z, z = (pAdd b d) := ⟨_, rfl⟩
  have bz7 : z7 < pN := by rw [ez7]; exact pAdd_P _ _
  have q3 : z6 = (pCl z6) := (rep_uniq (Nat.lt_of_le_of_lt (Nat.le_of_eq ez6) (pAdd_P _ _)) (pCl_P _) (rep_eq ez6 (rep_add (rep_self a) (rep_self c))) (rep_cl (rep_eq ez6 (rep_add (rep_self a) (rep_self c)))) (by grind))
  obtain ⟨z8, ez8⟩ : ∃ z, z = (pNeg z7) := ⟨_, rfl⟩
  have bz8 : z8 < pN := by rw [ez8]; exact pNeg_P _
  obtain ⟨z9, ez9⟩ : ∃ z, z = (pCl c) := ⟨_, rfl⟩
  have bz9 : z9 < pN := by rw [ez9]; exact pCl_P _
  obtain ⟨z10, ez10⟩ : ∃ z, z = (pNeg d) := ⟨_, rfl⟩
  have bz10 : z10 < pN := by rw [ez10]; exact pNeg_P _
  have q4 : z6 = (pAdd z1 z9) := (rep_uniq (Nat.lt_of_le_of_lt (Nat.le_of_eq ez6) (pAdd_P _ _)) (pAdd_P _ _) (rep_eq ez6 (rep_add (rep_self a) (rep_self c))) (rep_add (rep_eq ez1 (rep_cl (rep_self a))) (rep_eq ez9 (rep_cl (rep_self c)))) (by grind))
  have q5 : z8 = (pAdd z2 z10) := (rep_uniq (Nat.lt_of_le_of_lt (Nat.le_of_eq ez8) (pNeg_P _)) (pAdd_P _ _) (rep_eq ez8 (rep_neg (rep_eq ez7 (rep_add (rep_self b) (rep_self d))))) (rep_add (rep_eq ez2 (rep_neg (rep_self b))) (rep_eq ez10 (rep_neg (rep_self d)))) (by grind))
  obtain ⟨z11, ez11⟩ : ∃ z, z = (pSub (pMul a c) (pMul b d)) := ⟨_, rfl⟩
  have bz11 : z11 < pN := by rw [ez11]; exact pSub_P _ _
  obtain ⟨z12, ez12⟩ : ∃ z, z = (pAdd (pMul a d) (pMul b c)) := ⟨_, rfl⟩
  have bz12 : z12 < pN := by rw [ez12]; exact pAdd_P _ _
  have q6 : z11 = (pCl z11) := (rep_uniq (Nat.lt_of_le_of_lt (Nat.le_of_eq ez11) (pSub_P _ _)) (pCl_P _) (rep_eq ez11 (rep_sub (rep_mul (rep_self a) (rep_self c)) (rep_mul (rep_self b) (rep_self d)))) (rep_cl (rep_eq ez11 (rep_sub (rep_mul (rep_self a) (rep_self c)) (rep_mul (rep_self b) (rep_self d))))) (by grind))
  obtain ⟨z13, ez13⟩ : ∃ z, z = (pNeg z12) := ⟨_, rfl⟩
  have bz13 : z13 < pN := by rw [ez13]; exact pNeg_P _
  have q7 : z11 = (pSub (pMul z1 z9) (pMul z2 z10)) := (rep_uniq (Nat.lt_of_le_of_lt (Nat.le_of_eq ez11) (pSub_P _ _)) (pSub_P _ _) (rep_eq ez11 (rep_sub (rep_mul (rep_self a) (rep_self c)) (rep_mul (rep_self b) (rep_self d)))) (rep_sub (rep_mul (rep_eq ez1 (rep_cl (rep_self a))) (rep_eq ez9 (rep_cl (rep_self c)))) (rep_mul (rep_eq ez2 (rep_neg (rep_self b))) (rep_eq ez10 (rep_neg (rep_self d))))) (by grind))
  have q8 : z13 = (pAdd (pMul z1 z10) (pMul z2 z9)) := (rep_uniq (Nat.lt_of_le_of_lt (Nat.le_of_eq ez13) (pNeg_P _)) (pAdd_P _ _) (rep_eq ez13 (rep_neg (rep_eq ez12 (rep_add (rep_mul (rep_self a) (rep_self d)) (rep_mul (rep_self b) (rep_self c)))))) (rep_add (rep_mul (rep_eq ez1 (rep_cl (rep_self a))) (rep_eq ez10 (rep_neg (rep_self d)))) (rep_mul (rep_eq ez2 (rep_neg (rep_self b))) (rep_eq ez9 (rep_cl (rep_self c))))) (by grind))
  have q9 : z1 = (pCl z1) := (rep_uniq (Nat.lt_of_le_of_lt (Nat.le_of_eq ez1) (pCl_P _)) (pCl_P _) (rep_eq ez1 (rep_cl (rep_self a))) (rep_cl (rep_eq ez1 (rep_cl (rep_self a)))) (by grind))
  obtain ⟨z14, ez14⟩ : ∃ z, z = (pNeg z2) := ⟨_, rfl⟩
  have bz14 : z14 < pN := by rw [ez14]; exact pNeg_P _
  have q10 : z14 = (pCl b) := (rep_uniq (Nat.lt_of_le_of_lt (Nat.le_of_eq ez14) (pNeg_P _)) (pCl_P _) (rep_eq ez14 (rep_neg (rep_eq ez2 (rep_neg (rep_self b))))) (rep_cl (rep_self b)) (by grind))
  go_enter Try.func10, Try.ntmps10
  refine seq_lit ?_
  refine sq_new (a' := ⟨List.toArray ((nv 6 [a, b]) :: (nv 6 [c, d]) :: (.pointer (some ⟨w.heap.size, 0, none⟩)) :: undef :: undef :: undef :: undef :: undef :: undef :: undef :: undef :: undef :: undef :: undef :: undef :: undef :: undef :: undef :: undef :: undef :: undef :: undef :: undef :: undef :: undef :: undef :: undef :: undef :: undef :: undef :: undef :: undef :: undef :: undef :: undef :: undef :: undef :: undef :: undef :: undef :: undef :: undef :: undef :: undef :: undef :: undef :: undef :: undef :: undef :: undef :: undef :: undef :: undef :: undef :: undef :: undef :: undef :: undef :: undef :: undef :: undef :: undef :: undef :: undef :: undef :: undef :: undef :: undef :: undef :: undef :: undef :: []), []⟩) (xs := rows 6 [a, b]) rfl rfl (ex_boxn (K := 6) (l := [a, b]) rfl) ?_
  intro w1 N1 hb1
  have HB2 := below_then (Below.refl w.heap.size w) hb1
  refine sq_new (a' := ⟨List.toArray ((nv 6 [a, b]) :: (nv 6 [c, d]) :: (.pointer (some ⟨w.heap.size, 0, none⟩)) :: (.pointer (some ⟨w1.heap.size, 0, none⟩)) :: undef :: undef :: undef :: undef :: undef :: undef :: undef :: undef :: undef :: undef :: undef :: undef :: undef :: undef :: undef :: undef :: undef :: undef :: undef :: undef :: undef :: undef :: undef :: undef :: undef :: undef :: undef :: undef :: undef :: undef :: undef :: undef :: undef :: undef :: undef :: undef :: undef :: undef :: undef :: undef :: undef :: undef :: undef :: undef :: undef :: undef :: undef :: undef :: undef :: undef :: undef :: undef :: undef :: undef :: undef :: undef :: undef :: undef :: undef :: undef :: undef :: undef :: undef :: undef :: undef :: undef :: undef :: []), []⟩) (xs := rows 6 [c, d]) rfl rfl (ex_boxn (K := 6) (l := [c, d]) rfl) ?_
  intro w3 N3 hb3
  have A4 := N1.keep hb3
  have HB5 := below_then HB2 hb3
  refine sq_val (a' := ⟨List.toArray ((nv 6 [a, b]) :: (nv 6 [c, d]) :: (.pointer (some ⟨w.heap.size, 0, none⟩)) :: (.pointer (some ⟨w1.heap.size, 0, none⟩)) :: (.bool false) :: undef :: undef :: undef :: undef :: undef :: undef :: undef :: undef :: undef :: undef :: undef :: undef :: undef :: undef :: undef :: undef :: undef :: undef :: undef :: undef :: undef :: undef :: undef :: undef :: undef :: undef :: undef :: undef :: undef :: undef :: undef :: undef :: undef :: undef :: undef :: undef :: undef :: undef :: undef :: undef :: undef :: undef :: undef :: undef :: undef :: undef :: undef :: undef :: undef :: undef :: undef :: undef :: undef :: undef :: undef :: undef :: undef :: undef :: undef :: undef :: undef :: undef :: undef :: undef :: undef :: undef :: []), []⟩) (v := .bool false) rfl rfl (ex_assign _) ?_
  refine seq_nil ?_
  refine seq_lit ?_
  refine sq_val (a' := ⟨List.toArray ((nv 6 [a, b]) :: (nv 6 [c, d]) :: (.pointer (some ⟨w.heap.size, 0, none⟩)) :: (.pointer (some ⟨w1.heap.size, 0, none⟩)) :: (.bool false) :: (.func (.func 38) #[] #[]) :: undef :: undef :: undef :: undef :: undef :: undef :: undef :: undef :: undef :: undef :: undef :: undef :: undef :: undef :: undef :: undef :: undef :: undef :: undef :: undef :: undef :: undef :: undef :: undef :: undef :: undef :: undef :: undef :: undef :: undef :: undef :: undef :: undef :: undef :: undef :: undef :: undef :: undef :: undef :: undef :: undef :: undef :: undef :: undef :: undef :: undef :: undef :: undef :: undef :: undef :: undef :: undef :: undef :: undef :: undef :: undef :: undef :: undef :: undef :: undef :: undef :: undef :: undef :: undef :: undef :: []), []⟩) (v := .func (.func 38) #[] #[]) rfl rfl (ex_assign _) ?_
  refine seq_nil ?_
  refine wp_seq (wp_region_one (F := fun γ => ⟨List.toArray ((nv 6 [a, b]) :: (nv 6 [c, d]) :: (.pointer (some ⟨w.heap.size, 0, none⟩)) :: (.pointer (some ⟨w1.heap.size, 0, none⟩)) :: (.bool false) :: (.func (.func 38) #[] #[]) :: (.pointer (some ⟨γ, 0, none⟩)) :: undef :: (nv 6 [a, b]) :: (.func (.func 38) #[] #[]) :: (nv 6 [a, b]) :: (nv 6 [z1, z2]) :: (nv 6 [z3, 0]) :: undef :: undef :: undef :: undef :: undef :: undef :: undef :: undef :: undef :: undef :: undef :: undef :: undef :: undef :: undef :: undef :: undef :: undef :: undef :: undef :: undef :: undef :: undef :: undef :: undef :: undef :: undef :: undef :: undef :: undef :: undef :: undef :: undef :: undef :: undef :: undef :: undef :: undef :: undef :: undef :: undef :: undef :: undef :: undef :: undef :: undef :: undef :: undef :: undef :: undef :: undef :: undef :: undef :: undef :: undef :: undef :: undef :: undef :: []), []⟩) 37 6 5 6 [0, 0] [z3, 0] [(6, .pointer (some ⟨0, 0, none⟩)), (8, nv 6 [a, b]), (9, .func (.func 38) #[] #[]), (10, nv 6 [a, b]), (11, nv 6 [z1, z2]), (12, nv 6 [z3, 0])] (by kernel_rfl) (by kernel_rfl) (by kernel_rfl) (by kernel_rfl) rfl (by simp only [putAll, List.setIfInBounds_toArray, List.set_cons_zero, List.set_cons_succ]) rfl rfl ?_ ?_)
  · refine GSteps.cons (g1_val (v := nv 6 [a, b]) rfl (fun γ => rfl) (fun γ => rfl) (fun γ W' h => ex_loadn (K := 6) (k := 0) (j := 2) (l := [a, b]) flFp2 rfl (A4.keep h.out) rfl _ rfl) rfl rfl) ?_
    refine GSteps.cons (g1_val (v := .func (.func 38) #[] #[]) rfl (fun γ => rfl) (fun γ => rfl) (fun γ W' h => ex_move _) rfl rfl) ?_
    refine GSteps.cons (g1_val (v := nv 6 [a, b]) rfl (fun γ => rfl) (fun γ => rfl) (fun γ W' h => ex_loadn (K := 6) (k := 0) (j := 2) (l := [a, b]) flFp2 rfl (A4.keep h.out) rfl _ rfl) rfl rfl) ?_
    refine GSteps.cons (g1_call (v := nv 6 [z1, z2]) rfl (fun γ => rfl) (fun γ => rfl) (fun γ W' => ex_call (vs := [nv 6 [a, b]]) rfl Try.call38 rfl) (fun W' h => duoConj_e a b _ ha hb z1 z2 ez1 ez2) rfl rfl) ?_
    refine GSteps.cons (g1_call (v := nv 6 [z3, 0]) rfl (fun γ => rfl) (fun γ => rfl) (fun γ W' => ex_call (vs := [nv 6 [a, b], nv 6 [z1, z2]]) rfl Try.call40 rfl) (fun W' h => duoMul_e a b z1 z2 _ ha hb (Nat.lt_trans bz1 fpM_lt) (Nat.lt_trans bz2 fpM_lt) z3 0 ez3 q1) rfl rfl) ?_
    refine GSteps.cons (g1_new (fun γ => rfl) (fun γ n => rfl) (fun γ W' => ex_alloc zFp2) rfl rfl (by kernel_rfl)) ?_
    refine GSteps.cons (g1_store rfl (fun γ => rfl) rfl (fun γ W' hA => ex_storen (K := 6) (l := [0, 0]) (m := [z3, 0]) flFp2 rfl rfl hA rfl) rfl rfl (by kernel_rfl)) ?_
    exact GSteps.nil
  intro g7 w7 hb7 le7 N7
  refine then_n ?_
  have A8 := A4.keep hb7.out
  have A9 := N3.keep hb7.out
  have HB10 := below_then HB5 hb7.out
  refine wp_seq (wp_region_one (F := fun γ => ⟨List.toArray ((nv 6 [a, b]) :: (nv 6 [c, d]) :: (.pointer (some ⟨w.heap.size, 0, none⟩)) :: (.pointer (some ⟨w1.heap.size, 0, none⟩)) :: (.bool false) :: (.func (.func 38) #[] #[]) :: (.pointer (some ⟨g7, 0, none⟩)) :: (.pointer (some ⟨γ, 0, none⟩)) :: (nv 6 [a, b]) :: (.func (.func 38) #[] #[]) :: (nv 6 [a, b]) :: (nv 6 [z1, z2]) :: (nv 6 [z3, 0]) :: (.pointer (some ⟨w.heap.size, 0, none⟩)) :: (nv 6 [a]) :: (.pointer (some ⟨w.heap.size, 0, none⟩)) :: (nv 6 [a]) :: (nv 6 [z4]) :: (.pointer (some ⟨w.heap.size, 6, none⟩)) :: (nv 6 [b]) :: (.pointer (some ⟨w.heap.size, 6, none⟩)) :: (nv 6 [b]) :: (nv 6 [z5]) :: (nv 6 [z3]) :: undef :: undef :: undef :: undef :: undef :: undef :: undef :: undef :: undef :: undef :: undef :: undef :: undef :: undef :: undef :: undef :: undef :: undef :: undef :: undef :: undef :: undef :: undef :: undef :: undef :: undef :: undef :: undef :: undef :: undef :: undef :: undef :: undef :: undef :: undef :: undef :: undef :: undef :: undef :: undef :: undef :: undef :: undef :: undef :: undef :: undef :: undef :: []), []⟩) 24 6 11 12 [0] [z3] [(7, .pointer (some ⟨0, 0, none⟩)), (13, .pointer (some ⟨w.heap.size, 0, none⟩)), (14, nv 6 [a]), (15, .pointer (some ⟨w.heap.size, 0, none⟩)), (16, nv 6 [a]), (17, nv 6 [z4]), (18, .pointer (some ⟨w.heap.size, 6, none⟩)), (19, nv 6 [b]), (20, .pointer (some ⟨w.heap.size, 6, none⟩)), (21, nv 6 [b]), (22, nv 6 [z5]), (23, nv 6 [z3])] (by kernel_rfl) (by kernel_rfl) (by kernel_rfl) (by kernel_rfl) rfl (by simp only [putAll, List.setIfInBounds_toArray, List.set_cons_zero, List.set_cons_succ]) rfl rfl ?_ ?_)
  · refine GSteps.cons (g1_val (v := .pointer (some ⟨w.heap.size, 0, none⟩)) rfl (fun γ => rfl) (fun γ => rfl) (fun γ W' h => ex_field faFp2_0 rfl) rfl rfl) ?_
    refine GSteps.cons (g1_val (v := nv 6 [a]) rfl (fun γ => rfl) (fun γ => rfl) (fun γ W' h => ex_loadn (K := 6) (k := 0) (j := 1) (l := [a, b]) flFp rfl (A8.keep h.out) rfl _ rfl) rfl rfl) ?_
    refine GSteps.cons (g1_val (v := .pointer (some ⟨w.heap.size, 0, none⟩)) rfl (fun γ => rfl) (fun γ => rfl) (fun γ W' h => ex_field faFp2_0 rfl) rfl rfl) ?_
    refine GSteps.cons (g1_val (v := nv 6 [a]) rfl (fun γ => rfl) (fun γ => rfl) (fun γ W' h => ex_loadn (K := 6) (k := 0) (j := 1) (l := [a, b]) flFp rfl (A8.keep h.out) rfl _ rfl) rfl rfl) ?_
    refine GSteps.cons (g1_call (v := nv 6 [z4]) rfl (fun γ => rfl) (fun γ => rfl) (fun γ W' => ex_call (vs := [nv 6 [a], nv 6 [a]]) rfl Try.call22 rfl) (fun W' h => (by rw [ez4]; exact fpMul_p a a _ ha ha)) rfl rfl) ?_
    refine GSteps.cons (g1_val (v := .pointer (some ⟨w.heap.size, 6, none⟩)) rfl (fun γ => rfl) (fun γ => rfl) (fun γ W' h => ex_field faFp2_1 rfl) rfl rfl) ?_
    refine GSteps.cons (g1_val (v := nv 6 [b]) rfl (fun γ => rfl) (fun γ => rfl) (fun γ W' h => ex_loadn (K := 6) (k := 1) (j := 1) (l := [a, b]) flFp rfl (A8.keep h.out) rfl _ rfl) rfl rfl) ?_
    refine GSteps.cons (g1_val (v := .pointer (some ⟨w.heap.size, 6, none⟩)) rfl (fun γ => rfl) (fun γ => rfl) (fun γ W' h => ex_field faFp2_1 rfl) rfl rfl) ?_
    refine GSteps.cons (g1_val (v := nv 6 [b]) rfl (fun γ => rfl) (fun γ => rfl) (fun γ W' h => ex_loadn (K := 6) (k := 1) (j := 1) (l := [a, b]) flFp rfl (A8.keep h.out) rfl _ rfl) rfl rfl) ?_
    refine GSteps.cons (g1_call (v := nv 6 [z5]) rfl (fun γ => rfl) (fun γ => rfl) (fun γ W' => ex_call (vs := [nv 6 [b], nv 6 [b]]) rfl Try.call22 rfl) (fun W' h => (by rw [ez5]; exact fpMul_p b b _ hb hb)) rfl rfl) ?_
    refine GSteps.cons (g1_call (v := nv 6 [z3]) rfl (fun γ => rfl) (fun γ => rfl) (fun γ W' => ex_call (vs := [nv 6 [z4], nv 6 [z5]]) rfl Try.call21 rfl) (fun W' h => (by rw [q2]; exact fpAdd_p z4 z5 _ (Nat.lt_trans bz4 fpM_lt) (Nat.lt_trans bz5 fpM_lt))) rfl rfl) ?_
    refine GSteps.cons (g1_new (fun γ => rfl) (fun γ n => rfl) (fun γ W' => ex_alloc zFp) rfl rfl (by kernel_rfl)) ?_
    refine GSteps.cons (g1_store rfl (fun γ => rfl) rfl (fun γ W' hA => ex_storen (K := 6) (l := [0]) (m := [z3]) flFp rfl rfl hA rfl) rfl rfl (by kernel_rfl)) ?_
    exact GSteps.nil
  intro g11 w11 hb11 le11 N11
  refine then_n ?_
  have A12 := A8.keep hb11.out
  have A13 := A9.keep hb11.out
  have A14 := N7.keep hb11.out
  have HB15 := below_then HB10 hb11.out
  refine wp_seq (wp_region_p (F := ⟨List.toArray ((nv 6 [a, b]) :: (nv 6 [c, d]) :: (.pointer (some ⟨w.heap.size, 0, none⟩)) :: (.pointer (some ⟨w1.heap.size, 0, none⟩)) :: (.bool true) :: (.func (.func 38) #[] #[]) :: (.pointer (some ⟨g7, 0, none⟩)) :: (.pointer (some ⟨g11, 0, none⟩)) :: (nv 6 [a, b]) :: (.func (.func 38) #[] #[]) :: (nv 6 [a, b]) :: (nv 6 [z1, z2]) :: (nv 6 [z3, 0]) :: (.pointer (some ⟨w.heap.size, 0, none⟩)) :: (nv 6 [a]) :: (.pointer (some ⟨w.heap.size, 0, none⟩)) :: (nv 6 [a]) :: (nv 6 [z4]) :: (.pointer (some ⟨w.heap.size, 6, none⟩)) :: (nv 6 [b]) :: (.pointer (some ⟨w.heap.size, 6, none⟩)) :: (nv 6 [b]) :: (nv 6 [z5]) :: (nv 6 [z3]) :: (.bool true) :: (.bool true) :: (.func (.func 38) #[] #[]) :: (nv 6 [a, b]) :: (nv 6 [c, d]) :: (nv 6 [z6, z7]) :: (nv 6 [z6, z8]) :: (.func (.func 38) #[] #[]) :: (nv 6 [a, b]) :: (nv 6 [z1, z2]) :: (.func (.func 38) #[] #[]) :: (nv 6 [c, d]) :: (nv 6 [z9, z10]) :: (nv 6 [z6, z8]) :: (.bool true) :: (.bool true) :: (.bool true) :: (.func (.func 38) #[] #[]) :: (nv 6 [a, b]) :: (nv 6 [c, d]) :: (nv 6 [z11, z12]) :: (nv 6 [z11, z13]) :: (.func (.func 38) #[] #[]) :: (nv 6 [a, b]) :: (nv 6 [z1, z2]) :: (.func (.func 38) #[] #[]) :: (nv 6 [c, d]) :: (nv 6 [z9, z10]) :: (nv 6 [z11, z13]) :: (.bool true) :: (.bool true) :: (.bool true) :: (.func (.func 38) #[] #[]) :: (.func (.func 38) #[] #[]) :: (nv 6 [a, b]) :: (nv 6 [z1, z2]) :: (nv 6 [z1, z14]) :: (nv 6 [a, b]) :: (nv 6 [z1, z14]) :: (.bool true) :: (.bool true) :: (.bool true) :: (nv 6 [z3, 0]) :: (nv 6 [z3]) :: (nv 6 [z3, 0]) :: (.bool true) :: (.bool true) :: []), []⟩) (S := Bel w11) [(24, .bool true), (25, .bool true), (26, .func (.func 38) #[] #[]), (27, nv 6 [a, b]), (28, nv 6 [c, d]), (29, nv 6 [z6, z7]), (30, nv 6 [z6, z8]), (31, .func (.func 38) #[] #[]), (32, nv 6 [a, b]), (33, nv 6 [z1, z2]), (34, .func (.func 38) #[] #[]), (35, nv 6 [c, d]), (36, nv 6 [z9, z10]), (37, nv 6 [z6, z8]), (38, .bool true), (39, .bool true), (40, .bool true), (41, .func (.func 38) #[] #[]), (42, nv 6 [a, b]), (43, nv 6 [c, d]), (44, nv 6 [z11, z12]), (45, nv 6 [z11, z13]), (46, .func (.func 38) #[] #[]), (47, nv 6 [a, b]), (48, nv 6 [z1, z2]), (49, .func (.func 38) #[] #[]), (50, nv 6 [c, d]), (51, nv 6 [z9, z10]), (52, nv 6 [z11, z13]), (53, .bool true), (54, .bool true), (55, .bool true), (56, .func (.func 38) #[] #[]), (57, .func (.func 38) #[] #[]), (58, nv 6 [a, b]), (59, nv 6 [z1, z2]), (60, nv 6 [z1, z14]), (61, nv 6 [a, b]), (62, nv 6 [z1, z14]), (63, .bool true), (64, .bool true), (65, .bool true), (66, nv 6 [z3, 0]), (67, nv 6 [z3]), (68, nv 6 [z3, 0]), (69, .bool true), (70, .bool true), (4, .bool true)] (by kernel_rfl) (by kernel_rfl) (by kernel_rfl) (by kernel_rfl) rfl (by simp only [putAll, List.setIfInBounds_toArray, List.set_cons_zero, List.set_cons_succ]) (Bel.start _) ?_ ?_)
  · refine PlanSteps.cons (ps_call (v := .bool true) rfl rfl rfl (fun W' => ex_call (vs := []) rfl Try.call30 rfl) (fun W' h => duoalive_v _)) ?_
    refine PlanSteps.cons (ps_val (v := .bool true) rfl rfl rfl (fun W' h => ex_move _)) ?_
    refine PlanSteps.cons (ps_val (v := .func (.func 38) #[] #[]) rfl rfl rfl (fun W' h => ex_move _)) ?_
    refine PlanSteps.cons (ps_val (v := nv 6 [a, b]) rfl rfl rfl (fun W' h => ex_loadn (K := 6) (k := 0) (j := 2) (l := [a, b]) flFp2 rfl (A12.keep h.out) rfl _ rfl)) ?_
    refine PlanSteps.cons (ps_val (v := nv 6 [c, d]) rfl rfl rfl (fun W' h => ex_loadn (K := 6) (k := 0) (j := 2) (l := [c, d]) flFp2 rfl (A13.keep h.out) rfl _ rfl)) ?_
    refine PlanSteps.cons (ps_call (v := nv 6 [z6, z7]) rfl rfl rfl (fun W' => ex_call (vs := [nv 6 [a, b], nv 6 [c, d]]) rfl Try.call32 rfl) (fun W' h => duoAdd_e a b c d _ ha hb hc hd z6 z7 ez6 ez7)) ?_
    refine PlanSteps.cons (ps_call (v := nv 6 [z6, z8]) rfl rfl rfl (fun W' => ex_call (vs := [nv 6 [z6, z7]]) rfl Try.call38 rfl) (fun W' h => duoConj_e z6 z7 _ (Nat.lt_trans bz6 fpM_lt) (Nat.lt_trans bz7 fpM_lt) z6 z8 q3 ez8)) ?_
    refine PlanSteps.cons (ps_val (v := .func (.func 38) #[] #[]) rfl rfl rfl (fun W' h => ex_move _)) ?_
    refine PlanSteps.cons (ps_val (v := nv 6 [a, b]) rfl rfl rfl (fun W' h => ex_loadn (K := 6) (k := 0) (j := 2) (l := [a, b]) flFp2 rfl (A12.keep h.out) rfl _ rfl)) ?_
    refine PlanSteps.cons (ps_call (v := nv 6 [z1, z2]) rfl rfl rfl (fun W' => ex_call (vs := [nv 6 [a, b]]) rfl Try.call38 rfl) (fun W' h => duoConj_e a b _ ha hb z1 z2 ez1 ez2)) ?_
    refine PlanSteps.cons (ps_val (v := .func (.func 38) #[] #[]) rfl rfl rfl (fun W' h => ex_move _)) ?_
    refine PlanSteps.cons (ps_val (v := nv 6 [c, d]) rfl rfl rfl (fun W' h => ex_loadn (K := 6) (k := 0) (j := 2) (l := [c, d]) flFp2 rfl (A13.keep h.out) rfl _ rfl)) ?_
    refine PlanSteps.cons (ps_call (v := nv 6 [z9, z10]) rfl rfl rfl (fun W' => ex_call (vs := [nv 6 [c, d]]) rfl Try.call38 rfl) (fun W' h => duoConj_e c d _ hc hd z9 z10 ez9 ez10)) ?_
    refine PlanSteps.cons (ps_call (v := nv 6 [z6, z8]) rfl rfl rfl (fun W' => ex_call (vs := [nv 6 [z1, z2], nv 6 [z9, z10]]) rfl Try.call32 rfl) (fun W' h => duoAdd_e z1 z2 z9 z10 _ (Nat.lt_trans bz1 fpM_lt) (Nat.lt_trans bz2 fpM_lt) (Nat.lt_trans bz9 fpM_lt) (Nat.lt_trans bz10 fpM_lt) z6 z8 q4 q5)) ?_
    refine PlanSteps.cons (ps_val (v := .bool true) rfl rfl rfl (fun W' h => ex_eqt (K := 6) (l := [z6, z8]) eqFp2 rfl rfl rfl rfl)) ?_
    refine PlanSteps.cons (ps_val (v := .bool true) rfl rfl rfl (fun W' h => ex_pick (r := true) rfl)) ?_
    refine PlanSteps.cons (ps_val (v := .bool true) rfl rfl rfl (fun W' h => ex_move _)) ?_
    refine PlanSteps.cons (ps_val (v := .func (.func 38) #[] #[]) rfl rfl rfl (fun W' h => ex_move _)) ?_
    refine PlanSteps.cons (ps_val (v := nv 6 [a, b]) rfl rfl rfl (fun W' h => ex_loadn (K := 6) (k := 0) (j := 2) (l := [a, b]) flFp2 rfl (A12.keep h.out) rfl _ rfl)) ?_
    refine PlanSteps.cons (ps_val (v := nv 6 [c, d]) rfl rfl rfl (fun W' h => ex_loadn (K := 6) (k := 0) (j := 2) (l := [c, d]) flFp2 rfl (A13.keep h.out) rfl _ rfl)) ?_
    refine PlanSteps.cons (ps_call (v := nv 6 [z11, z12]) rfl rfl rfl (fun W' => ex_call (vs := [nv 6 [a, b], nv 6 [c, d]]) rfl Try.call40 rfl) (fun W' h => duoMul_e a b c d _ ha hb hc hd z11 z12 ez11 ez12)) ?_
    refine PlanSteps.cons (ps_call (v := nv 6 [z11, z13]) rfl rfl rfl (fun W' => ex_call (vs := [nv 6 [z11, z12]]) rfl Try.call38 rfl) (fun W' h => duoConj_e z11 z12 _ (Nat.lt_trans bz11 fpM_lt) (Nat.lt_trans bz12 fpM_lt) z11 z13 q6 ez13)) ?_
    refine PlanSteps.cons (ps_val (v := .func (.func 38) #[] #[]) rfl rfl rfl (fun W' h => ex_move _)) ?_
    refine PlanSteps.cons (ps_val (v := nv 6 [a, b]) rfl rfl rfl (fun W' h => ex_loadn (K := 6) (k := 0) (j := 2) (l := [a, b]) flFp2 rfl (A12.keep h.out) rfl _ rfl)) ?_
    refine PlanSteps.cons (ps_call (v := nv 6 [z1, z2]) rfl rfl rfl (fun W' => ex_call (vs := [nv 6 [a, b]]) rfl Try.call38 rfl) (fun W' h => duoConj_e a b _ ha hb z1 z2 ez1 ez2)) ?_
    refine PlanSteps.cons (ps_val (v := .func (.func 38) #[] #[]) rfl rfl rfl (fun W' h => ex_move _)) ?_
    refine PlanSteps.cons (ps_val (v := nv 6 [c, d]) rfl rfl rfl (fun W' h => ex_loadn (K := 6) (k := 0) (j := 2) (l := [c, d]) flFp2 rfl (A13.keep h.out) rfl _ rfl)) ?_
    refine PlanSteps.cons (ps_call (v := nv 6 [z9, z10]) rfl rfl rfl (fun W' => ex_call (vs := [nv 6 [c, d]]) rfl Try.call38 rfl) (fun W' h => duoConj_e c d _ hc hd z9 z10 ez9 ez10)) ?_
    refine PlanSteps.cons (ps_call (v := nv 6 [z11, z13]) rfl rfl rfl (fun W' => ex_call (vs := [nv 6 [z1, z2], nv 6 [z9, z10]]) rfl Try.call40 rfl) (fun W' h => duoMul_e z1 z2 z9 z10 _ (Nat.lt_trans bz1 fpM_lt) (Nat.lt_trans bz2 fpM_lt) (Nat.lt_trans bz9 fpM_lt) (Nat.lt_trans bz10 fpM_lt) z11 z13 q7 q8)) ?_
    refine PlanSteps.cons (ps_val (v := .bool true) rfl rfl rfl (fun W' h => ex_eqt (K := 6) (l := [z11, z13]) eqFp2 rfl rfl rfl rfl)) ?_
    refine PlanSteps.cons (ps_val (v := .bool true) rfl rfl rfl (fun W' h => ex_pick (r := true) rfl)) ?_
    refine PlanSteps.cons (ps_val (v := .bool true) rfl rfl rfl (fun W' h => ex_move _)) ?_
    refine PlanSteps.cons (ps_val (v := .func (.func 38) #[] #[]) rfl rfl rfl (fun W' h => ex_move _)) ?_
    refine PlanSteps.cons (ps_val (v := .func (.func 38) #[] #[]) rfl rfl rfl (fun W' h => ex_move _)) ?_
    refine PlanSteps.cons (ps_val (v := nv 6 [a, b]) rfl rfl rfl (fun W' h => ex_loadn (K := 6) (k := 0) (j := 2) (l := [a, b]) flFp2 rfl (A12.keep h.out) rfl _ rfl)) ?_
    refine PlanSteps.cons (ps_call (v := nv 6 [z1, z2]) rfl rfl rfl (fun W' => ex_call (vs := [nv 6 [a, b]]) rfl Try.call38 rfl) (fun W' h => duoConj_e a b _ ha hb z1 z2 ez1 ez2)) ?_
    refine PlanSteps.cons (ps_call (v := nv 6 [z1, z14]) rfl rfl rfl (fun W' => ex_call (vs := [nv 6 [z1, z2]]) rfl Try.call38 rfl) (fun W' h => duoConj_e z1 z2 _ (Nat.lt_trans bz1 fpM_lt) (Nat.lt_trans bz2 fpM_lt) z1 z14 q9 ez14)) ?_
    refine PlanSteps.cons (ps_val (v := nv 6 [a, b]) rfl rfl rfl (fun W' h => ex_loadn (K := 6) (k := 0) (j := 2) (l := [a, b]) flFp2 rfl (A12.keep h.out) rfl _ rfl)) ?_
    refine PlanSteps.cons (ps_call (v := nv 6 [z1, z14]) rfl rfl rfl (fun W' => ex_call (vs := [nv 6 [a, b]]) rfl Try.call31 rfl) (fun W' h => duoClean_e a b _ ha hb z1 z14 ez1 q10)) ?_
    refine PlanSteps.cons (ps_val (v := .bool true) rfl rfl rfl (fun W' h => ex_eqt (K := 6) (l := [z1, z14]) eqFp2 rfl rfl rfl rfl)) ?_
    refine PlanSteps.cons (ps_val (v := .bool true) rfl rfl rfl (fun W' h => ex_pick (r := true) rfl)) ?_
    refine PlanSteps.cons (ps_val (v := .bool true) rfl rfl rfl (fun W' h => ex_move _)) ?_
    refine PlanSteps.cons (ps_val (v := nv 6 [z3, 0]) rfl rfl rfl (fun W' h => ex_loadn (K := 6) (k := 0) (j := 2) (l := [z3, 0]) flFp2 rfl (A14.keep h.out) rfl _ rfl)) ?_
    refine PlanSteps.cons (ps_val (v := nv 6 [z3]) rfl rfl rfl (fun W' h => ex_loadn (K := 6) (k := 0) (j := 1) (l := [z3]) flFp rfl (N11.keep h.out) rfl _ rfl)) ?_
    refine PlanSteps.cons (ps_val (v := nv 6 [z3, 0]) rfl rfl rfl (fun W' h => ex_build stFp2 (vs := [(0, nv 6 [z3])]) rfl (bdA z3))) ?_
    refine PlanSteps.cons (ps_val (v := .bool true) rfl rfl rfl (fun W' h => ex_eqt (K := 6) (l := [z3, 0]) eqFp2 rfl rfl rfl rfl)) ?_
    refine PlanSteps.cons (ps_val (v := .bool true) rfl rfl rfl (fun W' h => ex_pick (r := true) rfl)) ?_
    refine PlanSteps.cons (ps_val (v := .bool true) rfl rfl rfl (fun W' h => ex_assign _)) ?_
    exact PlanSteps.nil
  intro w16 hb16
  refine then_n ?_
  have A17 := A12.keep hb16.out
  have A18 := A13.keep hb16.out
  have A19 := A14.keep hb16.out
  have A20 := N11.keep hb16.out
  have HB21 := below_then HB15 hb16.out
  exact wp_ret (bodyPost_ret (ret_tmp Try.results10 rfl) rfl ⟨rfl, HB21⟩)

end Go.Proofs.Ytgkdkahgiihlfaa

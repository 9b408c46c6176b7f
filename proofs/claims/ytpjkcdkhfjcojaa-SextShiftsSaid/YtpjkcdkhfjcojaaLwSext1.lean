/- What is proved here: the laws SextAdds and SextShifts. -/
import Derived.Test.YtpjkcdkhfjcojaaSext1
namespace Go.Proofs.Ytpjkcdkhfjcojaa
open Go.RowKit

theorem sa0 (x0 y0 : Int) : (x0 - y0 : Int) = x0 + (-y0) := by grind
theorem sa1 (x1 y1 : Int) : (x1 - y1 : Int) = x1 + (-y1) := by grind
theorem sa2 (x2 y2 : Int) : (x2 - y2 : Int) = x2 + (-y2) := by grind
theorem sa3 (x3 y3 : Int) : (x3 - y3 : Int) = x3 + (-y3) := by grind
theorem sa4 (x4 y4 : Int) : (x4 - y4 : Int) = x4 + (-y4) := by grind
theorem sa5 (x5 y5 : Int) : (x5 - y5 : Int) = x5 + (-y5) := by grind

set_option maxRecDepth 20000 in
set_option maxHeartbeats 4000000 in
theorem sextAdds_v (a0 a1 a2 a3 a4 a5 b0 b1 b2 b3 b4 b5 : Nat) (w : World) (la0 : a0 < fpB) (la1 : a1 < fpB) (la2 : a2 < fpB) (la3 : a3 < fpB) (la4 : a4 < fpB) (la5 : a5 < fpB) (lb0 : b0 < fpB) (lb1 : b1 < fpB) (lb2 : b2 < fpB) (lb3 : b3 < fpB) (lb4 : b4 < fpB) (lb5 : b5 < fpB) :
    Calls Try.prog 3 #[nv 6 [a0, a1, a2, a3, a4, a5], nv 6 [b0, b1, b2, b3, b4, b5]] w (Is (.bool true) w) := by
  obtain ⟨x0, ra0⟩ : ∃ z : Int, Rep a0 z := ⟨_, rep_self a0⟩
  obtain ⟨x1, ra1⟩ : ∃ z : Int, Rep a1 z := ⟨_, rep_self a1⟩
  obtain ⟨x2, ra2⟩ : ∃ z : Int, Rep a2 z := ⟨_, rep_self a2⟩
  obtain ⟨x3, ra3⟩ : ∃ z : Int, Rep a3 z := ⟨_, rep_self a3⟩
  obtain ⟨x4, ra4⟩ : ∃ z : Int, Rep a4 z := ⟨_, rep_self a4⟩
  obtain ⟨x5, ra5⟩ : ∃ z : Int, Rep a5 z := ⟨_, rep_self a5⟩
  obtain ⟨y0, rb0⟩ : ∃ z : Int, Rep b0 z := ⟨_, rep_self b0⟩
  obtain ⟨y1, rb1⟩ : ∃ z : Int, Rep b1 z := ⟨_, rep_self b1⟩
  obtain ⟨y2, rb2⟩ : ∃ z : Int, Rep b2 z := ⟨_, rep_self b2⟩
  obtain ⟨y3, rb3⟩ : ∃ z : Int, Rep b3 z := ⟨_, rep_self b3⟩
  obtain ⟨y4, rb4⟩ : ∃ z : Int, Rep b4 z := ⟨_, rep_self b4⟩
  obtain ⟨y5, rb5⟩ : ∃ z : Int, Rep b5 z := ⟨_, rep_self b5⟩
  obtain ⟨z1, bz1, rz1⟩ := rep_of (x0)
  obtain ⟨z2, bz2, rz2⟩ := rep_of (x1)
  obtain ⟨z3, bz3, rz3⟩ := rep_of (x2)
  obtain ⟨z4, bz4, rz4⟩ := rep_of (x3)
  obtain ⟨z5, bz5, rz5⟩ := rep_of (x4)
  obtain ⟨z6, bz6, rz6⟩ := rep_of (x5)
  obtain ⟨z7, bz7, rz7⟩ := rep_of (y0)
  obtain ⟨z8, bz8, rz8⟩ := rep_of (y1)
  obtain ⟨z9, bz9, rz9⟩ := rep_of (y2)
  obtain ⟨z10, bz10, rz10⟩ := rep_of (y3)
  obtain ⟨z11, bz11, rz11⟩ := rep_of (y4)
  obtain ⟨z12, bz12, rz12⟩ := rep_of (y5)
  obtain ⟨z13, bz13, rz13⟩ := rep_of (x0 + y0)
  obtain ⟨z14, bz14, rz14⟩ := rep_of (x1 + y1)
  obtain ⟨z15, bz15, rz15⟩ := rep_of (x2 + y2)
  obtain ⟨z16, bz16, rz16⟩ := rep_of (x3 + y3)
  obtain ⟨z17, bz17, rz17⟩ := rep_of (x4 + y4)
  obtain ⟨z18, bz18, rz18⟩ := rep_of (x5 + y5)
  obtain ⟨z19, bz19, rz19⟩ := rep_of (x0 - y0)
  obtain ⟨z20, bz20, rz20⟩ := rep_of (x1 - y1)
  obtain ⟨z21, bz21, rz21⟩ := rep_of (x2 - y2)
  obtain ⟨z22, bz22, rz22⟩ := rep_of (x3 - y3)
  obtain ⟨z23, bz23, rz23⟩ := rep_of (x4 - y4)
  obtain ⟨z24, bz24, rz24⟩ := rep_of (x5 - y5)
  obtain ⟨z25, bz25, rz25⟩ := rep_of (-y0)
  obtain ⟨z26, bz26, rz26⟩ := rep_of (-y1)
  obtain ⟨z27, bz27, rz27⟩ := rep_of (-y2)
  obtain ⟨z28, bz28, rz28⟩ := rep_of (-y3)
  obtain ⟨z29, bz29, rz29⟩ := rep_of (-y4)
  obtain ⟨z30, bz30, rz30⟩ := rep_of (-y5)
  obtain ⟨z31, bz31, rz31⟩ := rep_of (-x0)
  obtain ⟨z32, bz32, rz32⟩ := rep_of (-x1)
  obtain ⟨z33, bz33, rz33⟩ := rep_of (-x2)
  obtain ⟨z34, bz34, rz34⟩ := rep_of (-x3)
  obtain ⟨z35, bz35, rz35⟩ := rep_of (-x4)
  obtain ⟨z36, bz36, rz36⟩ := rep_of (-x5)
  obtain ⟨z37, bz37, rz37⟩ := rep_of (x4 - x5)
  obtain ⟨z38, bz38, rz38⟩ := rep_of (x4 + x5)
  go_enter Try.func3, Try.ntmps3
  refine seq_lit ?_
  refine sq_new (a' := ⟨List.toArray ((nv 6 [a0, a1, a2, a3, a4, a5]) :: (nv 6 [b0, b1, b2, b3, b4, b5]) :: (.pointer (some ⟨w.heap.size, 0, none⟩)) :: undef :: undef :: undef :: undef :: undef :: undef :: undef :: undef :: undef :: undef :: undef :: undef :: undef :: undef :: undef :: undef :: undef :: undef :: undef :: undef :: undef :: undef :: undef :: undef :: undef :: undef :: undef :: undef :: undef :: undef :: undef :: undef :: undef :: undef :: undef :: undef :: undef :: undef :: undef :: undef :: undef :: undef :: undef :: undef :: undef :: undef :: undef :: undef :: []), []⟩) (xs := rows 6 [a0, a1, a2, a3, a4, a5]) rfl rfl (ex_boxn (K := 6) (l := [a0, a1, a2, a3, a4, a5]) rfl) ?_
  intro w1 N1 hb1
  have HB2 := below_then (Below.refl w.heap.size w) hb1
  refine sq_new (a' := ⟨List.toArray ((nv 6 [a0, a1, a2, a3, a4, a5]) :: (nv 6 [b0, b1, b2, b3, b4, b5]) :: (.pointer (some ⟨w.heap.size, 0, none⟩)) :: (.pointer (some ⟨w1.heap.size, 0, none⟩)) :: undef :: undef :: undef :: undef :: undef :: undef :: undef :: undef :: undef :: undef :: undef :: undef :: undef :: undef :: undef :: undef :: undef :: undef :: undef :: undef :: undef :: undef :: undef :: undef :: undef :: undef :: undef :: undef :: undef :: undef :: undef :: undef :: undef :: undef :: undef :: undef :: undef :: undef :: undef :: undef :: undef :: undef :: undef :: undef :: undef :: undef :: undef :: []), []⟩) (xs := rows 6 [b0, b1, b2, b3, b4, b5]) rfl rfl (ex_boxn (K := 6) (l := [b0, b1, b2, b3, b4, b5]) rfl) ?_
  intro w3 N3 hb3
  have A4 := N1.keep hb3
  have HB5 := below_then HB2 hb3
  refine sq_val (a' := ⟨List.toArray ((nv 6 [a0, a1, a2, a3, a4, a5]) :: (nv 6 [b0, b1, b2, b3, b4, b5]) :: (.pointer (some ⟨w.heap.size, 0, none⟩)) :: (.pointer (some ⟨w1.heap.size, 0, none⟩)) :: (.bool false) :: undef :: undef :: undef :: undef :: undef :: undef :: undef :: undef :: undef :: undef :: undef :: undef :: undef :: undef :: undef :: undef :: undef :: undef :: undef :: undef :: undef :: undef :: undef :: undef :: undef :: undef :: undef :: undef :: undef :: undef :: undef :: undef :: undef :: undef :: undef :: undef :: undef :: undef :: undef :: undef :: undef :: undef :: undef :: undef :: undef :: undef :: []), []⟩) (v := .bool false) rfl rfl (ex_assign _) ?_
  refine seq_nil ?_
  refine wp_seq (wp_region_two (F := fun γ => ⟨List.toArray ((nv 6 [a0, a1, a2, a3, a4, a5]) :: (nv 6 [b0, b1, b2, b3, b4, b5]) :: (.pointer (some ⟨w.heap.size, 0, none⟩)) :: (.pointer (some ⟨w1.heap.size, 0, none⟩)) :: (.bool false) :: (.pointer (some ⟨γ.1, 0, none⟩)) :: (.pointer (some ⟨γ.2, 0, none⟩)) :: (nv 6 [a0, a1, a2, a3, a4, a5]) :: (nv 6 [z1, z2, z3, z4, z5, z6]) :: (nv 6 [b0, b1, b2, b3, b4, b5]) :: (nv 6 [z7, z8, z9, z10, z11, z12]) :: undef :: undef :: undef :: undef :: undef :: undef :: undef :: undef :: undef :: undef :: undef :: undef :: undef :: undef :: undef :: undef :: undef :: undef :: undef :: undef :: undef :: undef :: undef :: undef :: undef :: undef :: undef :: undef :: undef :: undef :: undef :: undef :: undef :: undef :: undef :: undef :: undef :: undef :: undef :: undef :: []), []⟩) 28 28 6 4 5 6 7 [0, 0, 0, 0, 0, 0] [0, 0, 0, 0, 0, 0] [z1, z2, z3, z4, z5, z6] [z7, z8, z9, z10, z11, z12] [(5, .pointer (some ⟨0, 0, none⟩)), (6, .pointer (some ⟨0, 0, none⟩)), (7, nv 6 [a0, a1, a2, a3, a4, a5]), (8, nv 6 [z1, z2, z3, z4, z5, z6]), (9, nv 6 [b0, b1, b2, b3, b4, b5]), (10, nv 6 [z7, z8, z9, z10, z11, z12])] (by kernel_rfl) (by kernel_rfl) (by kernel_rfl) (by kernel_rfl) rfl (by simp only [putAll, List.setIfInBounds_toArray, List.set_cons_zero, List.set_cons_succ]) rfl rfl rfl rfl ?_ ?_)
  · refine GSteps.cons (gs_val (v := nv 6 [a0, a1, a2, a3, a4, a5]) rfl (fun γ => rfl) (fun γ => rfl) (fun γ W' h => ex_loadn (K := 6) (k := 0) (j := 6) (l := [a0, a1, a2, a3, a4, a5]) flFp6 rfl (A4.keep h.out) rfl _ rfl) rfl rfl rfl rfl) ?_
    refine GSteps.cons (gs_call (v := nv 6 [z1, z2, z3, z4, z5, z6]) rfl (fun γ => rfl) (fun γ => rfl) (fun γ W' => ex_call (vs := [nv 6 [a0, a1, a2, a3, a4, a5]]) rfl Try.call7 rfl) (fun W' h => r6Clean_r ra0 ra1 ra2 ra3 ra4 ra5 la0 la1 la2 la3 la4 la5 bz1 bz2 bz3 bz4 bz5 bz6 rz1 rz2 rz3 rz4 rz5 rz6 _) rfl rfl rfl rfl) ?_
    refine GSteps.cons (gs_val (v := nv 6 [b0, b1, b2, b3, b4, b5]) rfl (fun γ => rfl) (fun γ => rfl) (fun γ W' h => ex_loadn (K := 6) (k := 0) (j := 6) (l := [b0, b1, b2, b3, b4, b5]) flFp6 rfl (N3.keep h.out) rfl _ rfl) rfl rfl rfl rfl) ?_
    refine GSteps.cons (gs_call (v := nv 6 [z7, z8, z9, z10, z11, z12]) rfl (fun γ => rfl) (fun γ => rfl) (fun γ W' => ex_call (vs := [nv 6 [b0, b1, b2, b3, b4, b5]]) rfl Try.call7 rfl) (fun W' h => r6Clean_r rb0 rb1 rb2 rb3 rb4 rb5 lb0 lb1 lb2 lb3 lb4 lb5 bz7 bz8 bz9 bz10 bz11 bz12 rz7 rz8 rz9 rz10 rz11 rz12 _) rfl rfl rfl rfl) ?_
    refine GSteps.cons (gs_new1 (fun γ => rfl) (fun γ n => rfl) (fun γ W' => ex_alloc zFp6) rfl rfl rfl rfl (by kernel_rfl)) ?_
    refine GSteps.cons (gs_new2 (fun γ => rfl) (fun γ n => rfl) (fun γ W' => ex_alloc zFp6) rfl rfl rfl rfl (by kernel_rfl)) ?_
    refine GSteps.cons (gs_store1 rfl (fun γ => rfl) rfl (fun γ W' hA => ex_storen (K := 6) (l := [0, 0, 0, 0, 0, 0]) (m := [z1, z2, z3, z4, z5, z6]) flFp6 rfl rfl hA rfl) rfl rfl rfl rfl rfl (by kernel_rfl) (by kernel_rfl)) ?_
    refine GSteps.cons (gs_store2 rfl (fun γ => rfl) rfl (fun γ W' hA => ex_storen (K := 6) (l := [0, 0, 0, 0, 0, 0]) (m := [z7, z8, z9, z10, z11, z12]) flFp6 rfl rfl hA rfl) rfl rfl rfl rfl rfl (by kernel_rfl) (by kernel_rfl)) ?_
    exact GSteps.nil
  intro g7 h7 w7 hb7 le7 lf7 ne7 N7 M7
  refine then_n ?_
  have A8 := A4.keep hb7.out
  have A9 := N3.keep hb7.out
  have HB10 := below_then HB5 hb7.out
  refine wp_seq (wp_region_p (F := ⟨List.toArray ((nv 6 [a0, a1, a2, a3, a4, a5]) :: (nv 6 [b0, b1, b2, b3, b4, b5]) :: (.pointer (some ⟨w.heap.size, 0, none⟩)) :: (.pointer (some ⟨w1.heap.size, 0, none⟩)) :: (.bool true) :: (.pointer (some ⟨g7, 0, none⟩)) :: (.pointer (some ⟨h7, 0, none⟩)) :: (nv 6 [a0, a1, a2, a3, a4, a5]) :: (nv 6 [z1, z2, z3, z4, z5, z6]) :: (nv 6 [b0, b1, b2, b3, b4, b5]) :: (nv 6 [z7, z8, z9, z10, z11, z12]) :: (.bool true) :: (.bool true) :: (nv 6 [a0, a1, a2, a3, a4, a5]) :: (nv 6 [z1, z2, z3, z4, z5, z6]) :: (nv 6 [z1, z2, z3, z4, z5, z6]) :: (.bool true) :: (.bool true) :: (.bool true) :: (nv 6 [a0, a1, a2, a3, a4, a5]) :: (nv 6 [b0, b1, b2, b3, b4, b5]) :: (nv 6 [z13, z14, z15, z16, z17, z18]) :: (nv 6 [z1, z2, z3, z4, z5, z6]) :: (nv 6 [z7, z8, z9, z10, z11, z12]) :: (nv 6 [z13, z14, z15, z16, z17, z18]) :: (.bool true) :: (.bool true) :: (.bool true) :: (nv 6 [a0, a1, a2, a3, a4, a5]) :: (nv 6 [b0, b1, b2, b3, b4, b5]) :: (nv 6 [z19, z20, z21, z22, z23, z24]) :: (nv 6 [z1, z2, z3, z4, z5, z6]) :: (nv 6 [z7, z8, z9, z10, z11, z12]) :: (nv 6 [z25, z26, z27, z28, z29, z30]) :: (nv 6 [z19, z20, z21, z22, z23, z24]) :: (.bool true) :: (.bool true) :: (.bool true) :: (nv 6 [a0, a1, a2, a3, a4, a5]) :: (nv 6 [z31, z32, z33, z34, z35, z36]) :: (nv 6 [z1, z2, z3, z4, z5, z6]) :: (nv 6 [z31, z32, z33, z34, z35, z36]) :: (.bool true) :: (.bool true) :: (.bool true) :: (nv 6 [a0, a1, a2, a3, a4, a5]) :: (nv 6 [z37, z38, z1, z2, z3, z4]) :: (nv 6 [z1, z2, z3, z4, z5, z6]) :: (nv 6 [z37, z38, z1, z2, z3, z4]) :: (.bool true) :: (.bool true) :: []), []⟩) (S := Bel w7) [(11, .bool true), (12, .bool true), (13, nv 6 [a0, a1, a2, a3, a4, a5]), (14, nv 6 [z1, z2, z3, z4, z5, z6]), (15, nv 6 [z1, z2, z3, z4, z5, z6]), (16, .bool true), (17, .bool true), (18, .bool true), (19, nv 6 [a0, a1, a2, a3, a4, a5]), (20, nv 6 [b0, b1, b2, b3, b4, b5]), (21, nv 6 [z13, z14, z15, z16, z17, z18]), (22, nv 6 [z1, z2, z3, z4, z5, z6]), (23, nv 6 [z7, z8, z9, z10, z11, z12]), (24, nv 6 [z13, z14, z15, z16, z17, z18]), (25, .bool true), (26, .bool true), (27, .bool true), (28, nv 6 [a0, a1, a2, a3, a4, a5]), (29, nv 6 [b0, b1, b2, b3, b4, b5]), (30, nv 6 [z19, z20, z21, z22, z23, z24]), (31, nv 6 [z1, z2, z3, z4, z5, z6]), (32, nv 6 [z7, z8, z9, z10, z11, z12]), (33, nv 6 [z25, z26, z27, z28, z29, z30]), (34, nv 6 [z19, z20, z21, z22, z23, z24]), (35, .bool true), (36, .bool true), (37, .bool true), (38, nv 6 [a0, a1, a2, a3, a4, a5]), (39, nv 6 [z31, z32, z33, z34, z35, z36]), (40, nv 6 [z1, z2, z3, z4, z5, z6]), (41, nv 6 [z31, z32, z33, z34, z35, z36]), (42, .bool true), (43, .bool true), (44, .bool true), (45, nv 6 [a0, a1, a2, a3, a4, a5]), (46, nv 6 [z37, z38, z1, z2, z3, z4]), (47, nv 6 [z1, z2, z3, z4, z5, z6]), (48, nv 6 [z37, z38, z1, z2, z3, z4]), (49, .bool true), (50, .bool true), (4, .bool true)] (by kernel_rfl) (by kernel_rfl) (by kernel_rfl) (by kernel_rfl) rfl (by simp only [putAll, List.setIfInBounds_toArray, List.set_cons_zero, List.set_cons_succ]) (Bel.start _) ?_ ?_)
  · refine PlanSteps.cons (ps_call (v := .bool true) rfl rfl rfl (fun W' => ex_call (vs := []) rfl Try.call8 rfl) (fun W' h => sextalive_w _)) ?_
    refine PlanSteps.cons (ps_val (v := .bool true) rfl rfl rfl (fun W' h => ex_move _)) ?_
    refine PlanSteps.cons (ps_val (v := nv 6 [a0, a1, a2, a3, a4, a5]) rfl rfl rfl (fun W' h => ex_loadn (K := 6) (k := 0) (j := 6) (l := [a0, a1, a2, a3, a4, a5]) flFp6 rfl (A8.keep h.out) rfl _ rfl)) ?_
    refine PlanSteps.cons (ps_call (v := nv 6 [z1, z2, z3, z4, z5, z6]) rfl rfl rfl (fun W' => ex_call (vs := [nv 6 [a0, a1, a2, a3, a4, a5]]) rfl Try.call9 rfl) (fun W' h => sextClean_r ra0 ra1 ra2 ra3 ra4 ra5 la0 la1 la2 la3 la4 la5 bz1 bz2 bz3 bz4 bz5 bz6 rz1 rz2 rz3 rz4 rz5 rz6 _)) ?_
    refine PlanSteps.cons (ps_val (v := nv 6 [z1, z2, z3, z4, z5, z6]) rfl rfl rfl (fun W' h => ex_loadn (K := 6) (k := 0) (j := 6) (l := [z1, z2, z3, z4, z5, z6]) flFp6 rfl (N7.keep h.out) rfl _ rfl)) ?_
    refine PlanSteps.cons (ps_val (v := .bool true) rfl rfl rfl (fun W' h => ex_eqt (K := 6) (l := [z1, z2, z3, z4, z5, z6]) eqFp6 rfl rfl rfl rfl)) ?_
    refine PlanSteps.cons (ps_val (v := .bool true) rfl rfl rfl (fun W' h => ex_pick (r := true) rfl)) ?_
    refine PlanSteps.cons (ps_val (v := .bool true) rfl rfl rfl (fun W' h => ex_move _)) ?_
    refine PlanSteps.cons (ps_val (v := nv 6 [a0, a1, a2, a3, a4, a5]) rfl rfl rfl (fun W' h => ex_loadn (K := 6) (k := 0) (j := 6) (l := [a0, a1, a2, a3, a4, a5]) flFp6 rfl (A8.keep h.out) rfl _ rfl)) ?_
    refine PlanSteps.cons (ps_val (v := nv 6 [b0, b1, b2, b3, b4, b5]) rfl rfl rfl (fun W' h => ex_loadn (K := 6) (k := 0) (j := 6) (l := [b0, b1, b2, b3, b4, b5]) flFp6 rfl (A9.keep h.out) rfl _ rfl)) ?_
    refine PlanSteps.cons (ps_call (v := nv 6 [z13, z14, z15, z16, z17, z18]) rfl rfl rfl (fun W' => ex_call (vs := [nv 6 [a0, a1, a2, a3, a4, a5], nv 6 [b0, b1, b2, b3, b4, b5]]) rfl Try.call10 rfl) (fun W' h => sextAdd_r ra0 ra1 ra2 ra3 ra4 ra5 rb0 rb1 rb2 rb3 rb4 rb5 la0 la1 la2 la3 la4 la5 lb0 lb1 lb2 lb3 lb4 lb5 bz13 bz14 bz15 bz16 bz17 bz18 rz13 rz14 rz15 rz16 rz17 rz18 _)) ?_
    refine PlanSteps.cons (ps_val (v := nv 6 [z1, z2, z3, z4, z5, z6]) rfl rfl rfl (fun W' h => ex_loadn (K := 6) (k := 0) (j := 6) (l := [z1, z2, z3, z4, z5, z6]) flFp6 rfl (N7.keep h.out) rfl _ rfl)) ?_
    refine PlanSteps.cons (ps_val (v := nv 6 [z7, z8, z9, z10, z11, z12]) rfl rfl rfl (fun W' h => ex_loadn (K := 6) (k := 0) (j := 6) (l := [z7, z8, z9, z10, z11, z12]) flFp6 rfl (M7.keep h.out) rfl _ rfl)) ?_
    refine PlanSteps.cons (ps_call (v := nv 6 [z13, z14, z15, z16, z17, z18]) rfl rfl rfl (fun W' => ex_call (vs := [nv 6 [z1, z2, z3, z4, z5, z6], nv 6 [z7, z8, z9, z10, z11, z12]]) rfl Try.call11 rfl) (fun W' h => r6Add_r rz1 rz2 rz3 rz4 rz5 rz6 rz7 rz8 rz9 rz10 rz11 rz12 bz1 bz2 bz3 bz4 bz5 bz6 bz7 bz8 bz9 bz10 bz11 bz12 bz13 bz14 bz15 bz16 bz17 bz18 rz13 rz14 rz15 rz16 rz17 rz18 _)) ?_
    refine PlanSteps.cons (ps_val (v := .bool true) rfl rfl rfl (fun W' h => ex_eqt (K := 6) (l := [z13, z14, z15, z16, z17, z18]) eqFp6 rfl rfl rfl rfl)) ?_
    refine PlanSteps.cons (ps_val (v := .bool true) rfl rfl rfl (fun W' h => ex_pick (r := true) rfl)) ?_
    refine PlanSteps.cons (ps_val (v := .bool true) rfl rfl rfl (fun W' h => ex_move _)) ?_
    refine PlanSteps.cons (ps_val (v := nv 6 [a0, a1, a2, a3, a4, a5]) rfl rfl rfl (fun W' h => ex_loadn (K := 6) (k := 0) (j := 6) (l := [a0, a1, a2, a3, a4, a5]) flFp6 rfl (A8.keep h.out) rfl _ rfl)) ?_
    refine PlanSteps.cons (ps_val (v := nv 6 [b0, b1, b2, b3, b4, b5]) rfl rfl rfl (fun W' h => ex_loadn (K := 6) (k := 0) (j := 6) (l := [b0, b1, b2, b3, b4, b5]) flFp6 rfl (A9.keep h.out) rfl _ rfl)) ?_
    refine PlanSteps.cons (ps_call (v := nv 6 [z19, z20, z21, z22, z23, z24]) rfl rfl rfl (fun W' => ex_call (vs := [nv 6 [a0, a1, a2, a3, a4, a5], nv 6 [b0, b1, b2, b3, b4, b5]]) rfl Try.call12 rfl) (fun W' h => sextSub_r ra0 ra1 ra2 ra3 ra4 ra5 rb0 rb1 rb2 rb3 rb4 rb5 la0 la1 la2 la3 la4 la5 lb0 lb1 lb2 lb3 lb4 lb5 bz19 bz20 bz21 bz22 bz23 bz24 rz19 rz20 rz21 rz22 rz23 rz24 _)) ?_
    refine PlanSteps.cons (ps_val (v := nv 6 [z1, z2, z3, z4, z5, z6]) rfl rfl rfl (fun W' h => ex_loadn (K := 6) (k := 0) (j := 6) (l := [z1, z2, z3, z4, z5, z6]) flFp6 rfl (N7.keep h.out) rfl _ rfl)) ?_
    refine PlanSteps.cons (ps_val (v := nv 6 [z7, z8, z9, z10, z11, z12]) rfl rfl rfl (fun W' h => ex_loadn (K := 6) (k := 0) (j := 6) (l := [z7, z8, z9, z10, z11, z12]) flFp6 rfl (M7.keep h.out) rfl _ rfl)) ?_
    refine PlanSteps.cons (ps_call (v := nv 6 [z25, z26, z27, z28, z29, z30]) rfl rfl rfl (fun W' => ex_call (vs := [nv 6 [z7, z8, z9, z10, z11, z12]]) rfl Try.call13 rfl) (fun W' h => r6Neg_r rz7 rz8 rz9 rz10 rz11 rz12 bz7 bz8 bz9 bz10 bz11 bz12 bz25 bz26 bz27 bz28 bz29 bz30 rz25 rz26 rz27 rz28 rz29 rz30 _)) ?_
    refine PlanSteps.cons (ps_call (v := nv 6 [z19, z20, z21, z22, z23, z24]) rfl rfl rfl (fun W' => ex_call (vs := [nv 6 [z1, z2, z3, z4, z5, z6], nv 6 [z25, z26, z27, z28, z29, z30]]) rfl Try.call11 rfl) (fun W' h => r6Add_r rz1 rz2 rz3 rz4 rz5 rz6 rz25 rz26 rz27 rz28 rz29 rz30 bz1 bz2 bz3 bz4 bz5 bz6 bz25 bz26 bz27 bz28 bz29 bz30 bz19 bz20 bz21 bz22 bz23 bz24 (rep_to rz19 (sa0 x0 y0)) (rep_to rz20 (sa1 x1 y1)) (rep_to rz21 (sa2 x2 y2)) (rep_to rz22 (sa3 x3 y3)) (rep_to rz23 (sa4 x4 y4)) (rep_to rz24 (sa5 x5 y5)) _)) ?_
    refine PlanSteps.cons (ps_val (v := .bool true) rfl rfl rfl (fun W' h => ex_eqt (K := 6) (l := [z19, z20, z21, z22, z23, z24]) eqFp6 rfl rfl rfl rfl)) ?_
    refine PlanSteps.cons (ps_val (v := .bool true) rfl rfl rfl (fun W' h => ex_pick (r := true) rfl)) ?_
    refine PlanSteps.cons (ps_val (v := .bool true) rfl rfl rfl (fun W' h => ex_move _)) ?_
    refine PlanSteps.cons (ps_val (v := nv 6 [a0, a1, a2, a3, a4, a5]) rfl rfl rfl (fun W' h => ex_loadn (K := 6) (k := 0) (j := 6) (l := [a0, a1, a2, a3, a4, a5]) flFp6 rfl (A8.keep h.out) rfl _ rfl)) ?_
    refine PlanSteps.cons (ps_call (v := nv 6 [z31, z32, z33, z34, z35, z36]) rfl rfl rfl (fun W' => ex_call (vs := [nv 6 [a0, a1, a2, a3, a4, a5]]) rfl Try.call14 rfl) (fun W' h => sextNeg_r ra0 ra1 ra2 ra3 ra4 ra5 la0 la1 la2 la3 la4 la5 bz31 bz32 bz33 bz34 bz35 bz36 rz31 rz32 rz33 rz34 rz35 rz36 _)) ?_
    refine PlanSteps.cons (ps_val (v := nv 6 [z1, z2, z3, z4, z5, z6]) rfl rfl rfl (fun W' h => ex_loadn (K := 6) (k := 0) (j := 6) (l := [z1, z2, z3, z4, z5, z6]) flFp6 rfl (N7.keep h.out) rfl _ rfl)) ?_
    refine PlanSteps.cons (ps_call (v := nv 6 [z31, z32, z33, z34, z35, z36]) rfl rfl rfl (fun W' => ex_call (vs := [nv 6 [z1, z2, z3, z4, z5, z6]]) rfl Try.call13 rfl) (fun W' h => r6Neg_r rz1 rz2 rz3 rz4 rz5 rz6 bz1 bz2 bz3 bz4 bz5 bz6 bz31 bz32 bz33 bz34 bz35 bz36 rz31 rz32 rz33 rz34 rz35 rz36 _)) ?_
    refine PlanSteps.cons (ps_val (v := .bool true) rfl rfl rfl (fun W' h => ex_eqt (K := 6) (l := [z31, z32, z33, z34, z35, z36]) eqFp6 rfl rfl rfl rfl)) ?_
    refine PlanSteps.cons (ps_val (v := .bool true) rfl rfl rfl (fun W' h => ex_pick (r := true) rfl)) ?_
    refine PlanSteps.cons (ps_val (v := .bool true) rfl rfl rfl (fun W' h => ex_move _)) ?_
    refine PlanSteps.cons (ps_val (v := nv 6 [a0, a1, a2, a3, a4, a5]) rfl rfl rfl (fun W' h => ex_loadn (K := 6) (k := 0) (j := 6) (l := [a0, a1, a2, a3, a4, a5]) flFp6 rfl (A8.keep h.out) rfl _ rfl)) ?_
    refine PlanSteps.cons (ps_call (v := nv 6 [z37, z38, z1, z2, z3, z4]) rfl rfl rfl (fun W' => ex_call (vs := [nv 6 [a0, a1, a2, a3, a4, a5]]) rfl Try.call15 rfl) (fun W' h => sextShift_r ra0 ra1 ra2 ra3 ra4 ra5 la0 la1 la2 la3 la4 la5 bz37 bz38 bz1 bz2 bz3 bz4 rz37 rz38 rz1 rz2 rz3 rz4 _)) ?_
    refine PlanSteps.cons (ps_val (v := nv 6 [z1, z2, z3, z4, z5, z6]) rfl rfl rfl (fun W' h => ex_loadn (K := 6) (k := 0) (j := 6) (l := [z1, z2, z3, z4, z5, z6]) flFp6 rfl (N7.keep h.out) rfl _ rfl)) ?_
    refine PlanSteps.cons (ps_call (v := nv 6 [z37, z38, z1, z2, z3, z4]) rfl rfl rfl (fun W' => ex_call (vs := [nv 6 [z1, z2, z3, z4, z5, z6]]) rfl Try.call16 rfl) (fun W' h => r6Shift_r rz1 rz2 rz3 rz4 rz5 rz6 bz1 bz2 bz3 bz4 bz5 bz6 bz37 bz38 bz1 bz2 bz3 bz4 rz37 rz38 rz1 rz2 rz3 rz4 _)) ?_
    refine PlanSteps.cons (ps_val (v := .bool true) rfl rfl rfl (fun W' h => ex_eqt (K := 6) (l := [z37, z38, z1, z2, z3, z4]) eqFp6 rfl rfl rfl rfl)) ?_
    refine PlanSteps.cons (ps_val (v := .bool true) rfl rfl rfl (fun W' h => ex_pick (r := true) rfl)) ?_
    refine PlanSteps.cons (ps_val (v := .bool true) rfl rfl rfl (fun W' h => ex_assign _)) ?_
    exact PlanSteps.nil
  intro w11 hb11
  refine then_n ?_
  have A12 := A8.keep hb11.out
  have A13 := A9.keep hb11.out
  have A14 := N7.keep hb11.out
  have A15 := M7.keep hb11.out
  have HB16 := below_then HB10 hb11.out
  exact wp_ret (bodyPost_ret (ret_tmp Try.results3 rfl) rfl ⟨rfl, HB16⟩)

theorem sh0 (x0 x1 x2 x3 x4 x5 : Int) : (x4 - x5 : Int) = x0 * 0 + x2 * 0 + x4 * 1 - x1 * 0 - x2 * 0 - x3 * 0 - x3 * 0 - x4 * 0 - x5 * 1 - x5 * 0 := by grind
theorem sh1 (x0 x1 x2 x3 x4 x5 : Int) : (x4 + x5 : Int) = x0 * 0 + x1 * 0 + x2 * 0 + x2 * 0 + x3 * 0 + x4 * 1 + x4 * 0 + x5 * 1 - x3 * 0 - x5 * 0 := by grind
theorem sh2 (x0 x1 x2 x3 x4 x5 : Int) : (x0 : Int) = x0 * 1 + x2 * 0 + x4 * 0 - x1 * 0 - x3 * 0 - x4 * 0 - x5 * 0 - x5 * 0 := by grind
theorem sh3 (x0 x1 x2 x3 x4 x5 : Int) : (x1 : Int) = x0 * 0 + x1 * 1 + x2 * 0 + x3 * 0 + x4 * 0 + x4 * 0 + x5 * 0 - x5 * 0 := by grind
theorem sh4 (x0 x1 x2 x3 x4 x5 : Int) : (x2 : Int) = x0 * 0 + x2 * 1 + x4 * 0 - x1 * 0 - x3 * 0 - x5 * 0 := by grind
theorem sh5 (x0 x1 x2 x3 x4 x5 : Int) : (x3 : Int) = x0 * 0 + x1 * 0 + x2 * 0 + x3 * 1 + x4 * 0 + x5 * 0 := by grind
theorem sh6 (x4 x5 : Int) : (x4 - x5 : Int) = (x4 - x5) := by grind
theorem sh7 (x4 x5 : Int) : (x4 + x5 : Int) = (x4 + x5) := by grind
theorem sh8 (x2 x3 : Int) : (x2 - x3 : Int) = (x2 - x3) := by grind
theorem sh9 (x2 x3 : Int) : (x2 + x3 : Int) = (x2 + x3) := by grind
theorem sh10 (x0 x1 x2 x3 x4 x5 : Int) : (x0 - x1 : Int) = x0 * 1 + x2 * 0 + x4 * 0 - x1 * 1 - x2 * 0 - x3 * 0 - x3 * 0 - x4 * 0 - x5 * 0 - x5 * 0 := by grind
theorem sh11 (x0 x1 x2 x3 x4 x5 : Int) : (x0 + x1 : Int) = x0 * 1 + x1 * 1 + x2 * 0 + x2 * 0 + x3 * 0 + x4 * 0 + x4 * 0 + x5 * 0 - x3 * 0 - x5 * 0 := by grind
theorem sh12 (x0 x1 x2 x3 x4 x5 : Int) : (x2 - x3 : Int) = x0 * 0 + x2 * 1 + x4 * 0 - x1 * 0 - x3 * 1 - x4 * 0 - x5 * 0 - x5 * 0 := by grind
theorem sh13 (x0 x1 x2 x3 x4 x5 : Int) : (x2 + x3 : Int) = x0 * 0 + x1 * 0 + x2 * 1 + x3 * 1 + x4 * 0 + x4 * 0 + x5 * 0 - x5 * 0 := by grind
theorem sh14 (x0 x1 x2 x3 x4 x5 : Int) : (x4 - x5 : Int) = x0 * 0 + x2 * 0 + x4 * 1 - x1 * 0 - x3 * 0 - x5 * 1 := by grind
theorem sh15 (x0 x1 x2 x3 x4 x5 : Int) : (x4 + x5 : Int) = x0 * 0 + x1 * 0 + x2 * 0 + x3 * 0 + x4 * 1 + x5 * 1 := by grind
theorem sh16 (x0 x1 x2 x3 x4 x5 y0 y1 y2 y3 y4 y5 : Int) : (x0 * y4 + x2 * y2 + x4 * y0 - x0 * y5 - x1 * y4 - x1 * y5 - x2 * y3 - x3 * y2 - x3 * y3 - x4 * y1 - x5 * y0 - x5 * y1 : Int) = (x0 * y4 + x2 * y2 + x4 * y0 - x1 * y5 - x3 * y3 - x5 * y1) - (x0 * y5 + x1 * y4 + x2 * y3 + x3 * y2 + x4 * y1 + x5 * y0) := by grind
theorem sh17 (x0 x1 x2 x3 x4 x5 y0 y1 y2 y3 y4 y5 : Int) : (x0 * y4 + x0 * y5 + x1 * y4 + x2 * y2 + x2 * y3 + x3 * y2 + x4 * y0 + x4 * y1 + x5 * y0 - x1 * y5 - x3 * y3 - x5 * y1 : Int) = (x0 * y4 + x2 * y2 + x4 * y0 - x1 * y5 - x3 * y3 - x5 * y1) + (x0 * y5 + x1 * y4 + x2 * y3 + x3 * y2 + x4 * y1 + x5 * y0) := by grind
theorem sh18 (x0 x1 x2 x3 x4 x5 y0 y1 y2 y3 y4 y5 : Int) : (x0 * y0 + x2 * y4 + x4 * y2 - x1 * y1 - x2 * y5 - x3 * y4 - x3 * y5 - x4 * y3 - x5 * y2 - x5 * y3 : Int) = (x0 * y0 + x2 * y4 + x4 * y2 - x1 * y1 - x2 * y5 - x3 * y4 - x3 * y5 - x4 * y3 - x5 * y2 - x5 * y3) := by grind
theorem sh19 (x0 x1 x2 x3 x4 x5 y0 y1 y2 y3 y4 y5 : Int) : (x0 * y1 + x1 * y0 + x2 * y4 + x2 * y5 + x3 * y4 + x4 * y2 + x4 * y3 + x5 * y2 - x3 * y5 - x5 * y3 : Int) = (x0 * y1 + x1 * y0 + x2 * y4 + x2 * y5 + x3 * y4 + x4 * y2 + x4 * y3 + x5 * y2 - x3 * y5 - x5 * y3) := by grind
theorem sh20 (x0 x1 x2 x3 x4 x5 y0 y1 y2 y3 y4 y5 : Int) : (x0 * y2 + x2 * y0 + x4 * y4 - x1 * y3 - x3 * y1 - x4 * y5 - x5 * y4 - x5 * y5 : Int) = (x0 * y2 + x2 * y0 + x4 * y4 - x1 * y3 - x3 * y1 - x4 * y5 - x5 * y4 - x5 * y5) := by grind
theorem sh21 (x0 x1 x2 x3 x4 x5 y0 y1 y2 y3 y4 y5 : Int) : (x0 * y3 + x1 * y2 + x2 * y1 + x3 * y0 + x4 * y4 + x4 * y5 + x5 * y4 - x5 * y5 : Int) = (x0 * y3 + x1 * y2 + x2 * y1 + x3 * y0 + x4 * y4 + x4 * y5 + x5 * y4 - x5 * y5) := by grind
theorem sh22 (x0 x1 x2 x3 x4 x5 y0 y1 y2 y3 y4 y5 : Int) : (x0 * y4 + x2 * y2 + x4 * y0 - x0 * y5 - x1 * y4 - x1 * y5 - x2 * y3 - x3 * y2 - x3 * y3 - x4 * y1 - x5 * y0 - x5 * y1 : Int) = (x4 - x5) * y0 + x0 * y4 + x2 * y2 - (x4 + x5) * y1 - x0 * y5 - x1 * y4 - x1 * y5 - x2 * y3 - x3 * y2 - x3 * y3 := by grind
theorem sh23 (x0 x1 x2 x3 x4 x5 y0 y1 y2 y3 y4 y5 : Int) : (x0 * y4 + x0 * y5 + x1 * y4 + x2 * y2 + x2 * y3 + x3 * y2 + x4 * y0 + x4 * y1 + x5 * y0 - x1 * y5 - x3 * y3 - x5 * y1 : Int) = (x4 - x5) * y1 + (x4 + x5) * y0 + x0 * y4 + x0 * y5 + x1 * y4 + x2 * y2 + x2 * y3 + x3 * y2 - x1 * y5 - x3 * y3 := by grind
theorem sh24 (x0 x1 x2 x3 x4 x5 y0 y1 y2 y3 y4 y5 : Int) : (x0 * y0 + x2 * y4 + x4 * y2 - x1 * y1 - x2 * y5 - x3 * y4 - x3 * y5 - x4 * y3 - x5 * y2 - x5 * y3 : Int) = (x4 - x5) * y2 + x0 * y0 + x2 * y4 - (x4 + x5) * y3 - x1 * y1 - x2 * y5 - x3 * y4 - x3 * y5 := by grind
theorem sh25 (x0 x1 x2 x3 x4 x5 y0 y1 y2 y3 y4 y5 : Int) : (x0 * y1 + x1 * y0 + x2 * y4 + x2 * y5 + x3 * y4 + x4 * y2 + x4 * y3 + x5 * y2 - x3 * y5 - x5 * y3 : Int) = (x4 - x5) * y3 + (x4 + x5) * y2 + x0 * y1 + x1 * y0 + x2 * y4 + x2 * y5 + x3 * y4 - x3 * y5 := by grind
theorem sh26 (x0 x1 x2 x3 x4 x5 y0 y1 y2 y3 y4 y5 : Int) : (x0 * y2 + x2 * y0 + x4 * y4 - x1 * y3 - x3 * y1 - x4 * y5 - x5 * y4 - x5 * y5 : Int) = (x4 - x5) * y4 + x0 * y2 + x2 * y0 - (x4 + x5) * y5 - x1 * y3 - x3 * y1 := by grind
theorem sh27 (x0 x1 x2 x3 x4 x5 y0 y1 y2 y3 y4 y5 : Int) : (x0 * y3 + x1 * y2 + x2 * y1 + x3 * y0 + x4 * y4 + x4 * y5 + x5 * y4 - x5 * y5 : Int) = (x4 - x5) * y5 + (x4 + x5) * y4 + x0 * y3 + x1 * y2 + x2 * y1 + x3 * y0 := by grind
theorem sh28 (x4 x5 y4 y5 : Int) : (x4 + y4 - x5 - y5 : Int) = (x4 + y4) - (x5 + y5) := by grind
theorem sh29 (x4 x5 y4 y5 : Int) : (x4 + x5 + y4 + y5 : Int) = (x4 + y4) + (x5 + y5) := by grind
theorem sh30 (x0 y0 : Int) : (x0 + y0 : Int) = (x0 + y0) := by grind
theorem sh31 (x1 y1 : Int) : (x1 + y1 : Int) = (x1 + y1) := by grind
theorem sh32 (x2 y2 : Int) : (x2 + y2 : Int) = (x2 + y2) := by grind
theorem sh33 (x3 y3 : Int) : (x3 + y3 : Int) = (x3 + y3) := by grind
theorem sh34 (x4 x5 y4 y5 : Int) : (x4 + y4 - x5 - y5 : Int) = (x4 - x5) + (y4 - y5) := by grind
theorem sh35 (x4 x5 y4 y5 : Int) : (x4 + x5 + y4 + y5 : Int) = (x4 + x5) + (y4 + y5) := by grind

set_option maxRecDepth 20000 in
set_option maxHeartbeats 4000000 in
theorem sextShifts_v (a0 a1 a2 a3 a4 a5 b0 b1 b2 b3 b4 b5 : Nat) (w : World) (la0 : a0 < fpB) (la1 : a1 < fpB) (la2 : a2 < fpB) (la3 : a3 < fpB) (la4 : a4 < fpB) (la5 : a5 < fpB) (lb0 : b0 < fpB) (lb1 : b1 < fpB) (lb2 : b2 < fpB) (lb3 : b3 < fpB) (lb4 : b4 < fpB) (lb5 : b5 < fpB) :
    Calls Try.prog 6 #[nv 6 [a0, a1, a2, a3, a4, a5], nv 6 [b0, b1, b2, b3, b4, b5]] w (Is (.bool true) w) := by
  obtain ⟨x0, ra0⟩ : ∃ z : Int, Rep a0 z := ⟨_, rep_self a0⟩
  obtain ⟨x1, ra1⟩ : ∃ z : Int, Rep a1 z := ⟨_, rep_self a1⟩
  obtain ⟨x2, ra2⟩ : ∃ z : Int, Rep a2 z := ⟨_, rep_self a2⟩
  obtain ⟨x3, ra3⟩ : ∃ z : Int, Rep a3 z := ⟨_, rep_self a3⟩
  obtain ⟨x4, ra4⟩ : ∃ z : Int, Rep a4 z := ⟨_, rep_self a4⟩
  obtain ⟨x5, ra5⟩ : ∃ z : Int, Rep a5 z := ⟨_, rep_self a5⟩
  obtain ⟨y0, rb0⟩ : ∃ z : Int, Rep b0 z := ⟨_, rep_self b0⟩
  obtain ⟨y1, rb1⟩ : ∃ z : Int, Rep b1 z := ⟨_, rep_self b1⟩
  obtain ⟨y2, rb2⟩ : ∃ z : Int, Rep b2 z := ⟨_, rep_self b2⟩
  obtain ⟨y3, rb3⟩ : ∃ z : Int, Rep b3 z := ⟨_, rep_self b3⟩
  obtain ⟨y4, rb4⟩ : ∃ z : Int, Rep b4 z := ⟨_, rep_self b4⟩
  obtain ⟨y5, rb5⟩ : ∃ z : Int, Rep b5 z := ⟨_, rep_self b5⟩
  obtain ⟨z1, bz1, rz1⟩ := rep_of (x4 - x5)
  obtain ⟨z2, bz2, rz2⟩ := rep_of (x4 + x5)
  obtain ⟨z3, bz3, rz3⟩ := rep_of (x0)
  obtain ⟨z4, bz4, rz4⟩ := rep_of (x1)
  obtain ⟨z5, bz5, rz5⟩ := rep_of (x2)
  obtain ⟨z6, bz6, rz6⟩ := rep_of (x3)
  obtain ⟨z7, bz7, rz7⟩ := rep_of (x2 - x3)
  obtain ⟨z8, bz8, rz8⟩ := rep_of (x2 + x3)
  obtain ⟨z9, bz9, rz9⟩ := rep_of (x0 - x1)
  obtain ⟨z10, bz10, rz10⟩ := rep_of (x0 + x1)
  obtain ⟨z11, bz11, rz11⟩ := rep_of (x0 * y0 + x2 * y4 + x4 * y2 - x1 * y1 - x2 * y5 - x3 * y4 - x3 * y5 - x4 * y3 - x5 * y2 - x5 * y3)
  obtain ⟨z12, bz12, rz12⟩ := rep_of (x0 * y1 + x1 * y0 + x2 * y4 + x2 * y5 + x3 * y4 + x4 * y2 + x4 * y3 + x5 * y2 - x3 * y5 - x5 * y3)
  obtain ⟨z13, bz13, rz13⟩ := rep_of (x0 * y2 + x2 * y0 + x4 * y4 - x1 * y3 - x3 * y1 - x4 * y5 - x5 * y4 - x5 * y5)
  obtain ⟨z14, bz14, rz14⟩ := rep_of (x0 * y3 + x1 * y2 + x2 * y1 + x3 * y0 + x4 * y4 + x4 * y5 + x5 * y4 - x5 * y5)
  obtain ⟨z15, bz15, rz15⟩ := rep_of (x0 * y4 + x2 * y2 + x4 * y0 - x1 * y5 - x3 * y3 - x5 * y1)
  obtain ⟨z16, bz16, rz16⟩ := rep_of (x0 * y5 + x1 * y4 + x2 * y3 + x3 * y2 + x4 * y1 + x5 * y0)
  obtain ⟨z17, bz17, rz17⟩ := rep_of (x0 * y4 + x2 * y2 + x4 * y0 - x0 * y5 - x1 * y4 - x1 * y5 - x2 * y3 - x3 * y2 - x3 * y3 - x4 * y1 - x5 * y0 - x5 * y1)
  obtain ⟨z18, bz18, rz18⟩ := rep_of (x0 * y4 + x0 * y5 + x1 * y4 + x2 * y2 + x2 * y3 + x3 * y2 + x4 * y0 + x4 * y1 + x5 * y0 - x1 * y5 - x3 * y3 - x5 * y1)
  obtain ⟨z19, bz19, rz19⟩ := rep_of (x0 + y0)
  obtain ⟨z20, bz20, rz20⟩ := rep_of (x1 + y1)
  obtain ⟨z21, bz21, rz21⟩ := rep_of (x2 + y2)
  obtain ⟨z22, bz22, rz22⟩ := rep_of (x3 + y3)
  obtain ⟨z23, bz23, rz23⟩ := rep_of (x4 + y4)
  obtain ⟨z24, bz24, rz24⟩ := rep_of (x5 + y5)
  obtain ⟨z25, bz25, rz25⟩ := rep_of (x4 + y4 - x5 - y5)
  obtain ⟨z26, bz26, rz26⟩ := rep_of (x4 + x5 + y4 + y5)
  obtain ⟨z27, bz27, rz27⟩ := rep_of (y4 - y5)
  obtain ⟨z28, bz28, rz28⟩ := rep_of (y4 + y5)
  obtain ⟨z29, bz29, rz29⟩ := rep_of (y0)
  obtain ⟨z30, bz30, rz30⟩ := rep_of (y1)
  obtain ⟨z31, bz31, rz31⟩ := rep_of (y2)
  obtain ⟨z32, bz32, rz32⟩ := rep_of (y3)
  go_enter Try.func6, Try.ntmps6
  refine seq_lit ?_
  refine sq_new (a' := ⟨List.toArray ((nv 6 [a0, a1, a2, a3, a4, a5]) :: (nv 6 [b0, b1, b2, b3, b4, b5]) :: (.pointer (some ⟨w.heap.size, 0, none⟩)) :: undef :: undef :: undef :: undef :: undef :: undef :: undef :: undef :: undef :: undef :: undef :: undef :: undef :: undef :: undef :: undef :: undef :: undef :: undef :: undef :: undef :: undef :: undef :: undef :: undef :: undef :: undef :: undef :: undef :: undef :: undef :: undef :: undef :: undef :: undef :: undef :: undef :: undef :: undef :: undef :: undef :: undef :: undef :: undef :: undef :: undef :: undef :: undef :: undef :: undef :: undef :: undef :: undef :: undef :: undef :: undef :: undef :: undef :: undef :: []), []⟩) (xs := rows 6 [a0, a1, a2, a3, a4, a5]) rfl rfl (ex_boxn (K := 6) (l := [a0, a1, a2, a3, a4, a5]) rfl) ?_
  intro w1 N1 hb1
  have HB2 := below_then (Below.refl w.heap.size w) hb1
  refine sq_new (a' := ⟨List.toArray ((nv 6 [a0, a1, a2, a3, a4, a5]) :: (nv 6 [b0, b1, b2, b3, b4, b5]) :: (.pointer (some ⟨w.heap.size, 0, none⟩)) :: (.pointer (some ⟨w1.heap.size, 0, none⟩)) :: undef :: undef :: undef :: undef :: undef :: undef :: undef :: undef :: undef :: undef :: undef :: undef :: undef :: undef :: undef :: undef :: undef :: undef :: undef :: undef :: undef :: undef :: undef :: undef :: undef :: undef :: undef :: undef :: undef :: undef :: undef :: undef :: undef :: undef :: undef :: undef :: undef :: undef :: undef :: undef :: undef :: undef :: undef :: undef :: undef :: undef :: undef :: undef :: undef :: undef :: undef :: undef :: undef :: undef :: undef :: undef :: undef :: undef :: []), []⟩) (xs := rows 6 [b0, b1, b2, b3, b4, b5]) rfl rfl (ex_boxn (K := 6) (l := [b0, b1, b2, b3, b4, b5]) rfl) ?_
  intro w3 N3 hb3
  have A4 := N1.keep hb3
  have HB5 := below_then HB2 hb3
  refine sq_val (a' := ⟨List.toArray ((nv 6 [a0, a1, a2, a3, a4, a5]) :: (nv 6 [b0, b1, b2, b3, b4, b5]) :: (.pointer (some ⟨w.heap.size, 0, none⟩)) :: (.pointer (some ⟨w1.heap.size, 0, none⟩)) :: (.bool false) :: undef :: undef :: undef :: undef :: undef :: undef :: undef :: undef :: undef :: undef :: undef :: undef :: undef :: undef :: undef :: undef :: undef :: undef :: undef :: undef :: undef :: undef :: undef :: undef :: undef :: undef :: undef :: undef :: undef :: undef :: undef :: undef :: undef :: undef :: undef :: undef :: undef :: undef :: undef :: undef :: undef :: undef :: undef :: undef :: undef :: undef :: undef :: undef :: undef :: undef :: undef :: undef :: undef :: undef :: undef :: undef :: undef :: []), []⟩) (v := .bool false) rfl rfl (ex_assign _) ?_
  refine seq_nil ?_
  refine seq_lit ?_
  refine sq_val (a' := ⟨List.toArray ((nv 6 [a0, a1, a2, a3, a4, a5]) :: (nv 6 [b0, b1, b2, b3, b4, b5]) :: (.pointer (some ⟨w.heap.size, 0, none⟩)) :: (.pointer (some ⟨w1.heap.size, 0, none⟩)) :: (.bool false) :: (.func (.func 15) #[] #[]) :: undef :: undef :: undef :: undef :: undef :: undef :: undef :: undef :: undef :: undef :: undef :: undef :: undef :: undef :: undef :: undef :: undef :: undef :: undef :: undef :: undef :: undef :: undef :: undef :: undef :: undef :: undef :: undef :: undef :: undef :: undef :: undef :: undef :: undef :: undef :: undef :: undef :: undef :: undef :: undef :: undef :: undef :: undef :: undef :: undef :: undef :: undef :: undef :: undef :: undef :: undef :: undef :: undef :: undef :: undef :: undef :: []), []⟩) (v := .func (.func 15) #[] #[]) rfl rfl (ex_assign _) ?_
  refine seq_nil ?_
  refine seq_lit ?_
  refine sq_val (a' := ⟨List.toArray ((nv 6 [a0, a1, a2, a3, a4, a5]) :: (nv 6 [b0, b1, b2, b3, b4, b5]) :: (.pointer (some ⟨w.heap.size, 0, none⟩)) :: (.pointer (some ⟨w1.heap.size, 0, none⟩)) :: (.bool false) :: (.func (.func 15) #[] #[]) :: undef :: (nv 6 [1]) :: undef :: undef :: undef :: undef :: undef :: undef :: undef :: undef :: undef :: undef :: undef :: undef :: undef :: undef :: undef :: undef :: undef :: undef :: undef :: undef :: undef :: undef :: undef :: undef :: undef :: undef :: undef :: undef :: undef :: undef :: undef :: undef :: undef :: undef :: undef :: undef :: undef :: undef :: undef :: undef :: undef :: undef :: undef :: undef :: undef :: undef :: undef :: undef :: undef :: undef :: undef :: undef :: undef :: undef :: []), []⟩) (v := nv 6 [1]) rfl rfl (ex_one rfl) ?_
  refine sq_val (a' := ⟨List.toArray ((nv 6 [a0, a1, a2, a3, a4, a5]) :: (nv 6 [b0, b1, b2, b3, b4, b5]) :: (.pointer (some ⟨w.heap.size, 0, none⟩)) :: (.pointer (some ⟨w1.heap.size, 0, none⟩)) :: (.bool false) :: (.func (.func 15) #[] #[]) :: undef :: (nv 6 [1]) :: (nv 6 [1]) :: undef :: undef :: undef :: undef :: undef :: undef :: undef :: undef :: undef :: undef :: undef :: undef :: undef :: undef :: undef :: undef :: undef :: undef :: undef :: undef :: undef :: undef :: undef :: undef :: undef :: undef :: undef :: undef :: undef :: undef :: undef :: undef :: undef :: undef :: undef :: undef :: undef :: undef :: undef :: undef :: undef :: undef :: undef :: undef :: undef :: undef :: undef :: undef :: undef :: undef :: undef :: undef :: undef :: []), []⟩) (v := nv 6 [1]) rfl rfl (ex_one rfl) ?_
  refine sq_val (a' := ⟨List.toArray ((nv 6 [a0, a1, a2, a3, a4, a5]) :: (nv 6 [b0, b1, b2, b3, b4, b5]) :: (.pointer (some ⟨w.heap.size, 0, none⟩)) :: (.pointer (some ⟨w1.heap.size, 0, none⟩)) :: (.bool false) :: (.func (.func 15) #[] #[]) :: undef :: (nv 6 [1]) :: (nv 6 [1]) :: (nv 6 [1, 1]) :: undef :: undef :: undef :: undef :: undef :: undef :: undef :: undef :: undef :: undef :: undef :: undef :: undef :: undef :: undef :: undef :: undef :: undef :: undef :: undef :: undef :: undef :: undef :: undef :: undef :: undef :: undef :: undef :: undef :: undef :: undef :: undef :: undef :: undef :: undef :: undef :: undef :: undef :: undef :: undef :: undef :: undef :: undef :: undef :: undef :: undef :: undef :: undef :: undef :: undef :: undef :: undef :: []), []⟩) (v := nv 6 [1, 1]) rfl rfl (ex_build stFp2 (vs := [(0, nv 6 [1]), (1, nv 6 [1])]) rfl (bdAB 1 1)) ?_
  refine sq_val (a' := ⟨List.toArray ((nv 6 [a0, a1, a2, a3, a4, a5]) :: (nv 6 [b0, b1, b2, b3, b4, b5]) :: (.pointer (some ⟨w.heap.size, 0, none⟩)) :: (.pointer (some ⟨w1.heap.size, 0, none⟩)) :: (.bool false) :: (.func (.func 15) #[] #[]) :: undef :: (nv 6 [1]) :: (nv 6 [1]) :: (nv 6 [1, 1]) :: (nv 6 [1, 1, 0, 0, 0, 0]) :: undef :: undef :: undef :: undef :: undef :: undef :: undef :: undef :: undef :: undef :: undef :: undef :: undef :: undef :: undef :: undef :: undef :: undef :: undef :: undef :: undef :: undef :: undef :: undef :: undef :: undef :: undef :: undef :: undef :: undef :: undef :: undef :: undef :: undef :: undef :: undef :: undef :: undef :: undef :: undef :: undef :: undef :: undef :: undef :: undef :: undef :: undef :: undef :: undef :: undef :: undef :: []), []⟩) (v := nv 6 [1, 1, 0, 0, 0, 0]) rfl rfl (ex_build stFp6 (vs := [(0, nv 6 [1, 1])]) rfl (bd6A 1 1)) ?_
  refine sq_new (a' := ⟨List.toArray ((nv 6 [a0, a1, a2, a3, a4, a5]) :: (nv 6 [b0, b1, b2, b3, b4, b5]) :: (.pointer (some ⟨w.heap.size, 0, none⟩)) :: (.pointer (some ⟨w1.heap.size, 0, none⟩)) :: (.bool false) :: (.func (.func 15) #[] #[]) :: (.pointer (some ⟨w3.heap.size, 0, none⟩)) :: (nv 6 [1]) :: (nv 6 [1]) :: (nv 6 [1, 1]) :: (nv 6 [1, 1, 0, 0, 0, 0]) :: undef :: undef :: undef :: undef :: undef :: undef :: undef :: undef :: undef :: undef :: undef :: undef :: undef :: undef :: undef :: undef :: undef :: undef :: undef :: undef :: undef :: undef :: undef :: undef :: undef :: undef :: undef :: undef :: undef :: undef :: undef :: undef :: undef :: undef :: undef :: undef :: undef :: undef :: undef :: undef :: undef :: undef :: undef :: undef :: undef :: undef :: undef :: undef :: undef :: undef :: undef :: []), []⟩) (xs := rows 6 [0, 0, 0, 0, 0, 0]) rfl rfl (ex_alloc zFp6) ?_
  intro w7 N7 hb7
  have A8 := A4.keep hb7
  have A9 := N3.keep hb7
  have HB10 := below_then HB5 hb7
  refine sq_store (a' := ⟨List.toArray ((nv 6 [a0, a1, a2, a3, a4, a5]) :: (nv 6 [b0, b1, b2, b3, b4, b5]) :: (.pointer (some ⟨w.heap.size, 0, none⟩)) :: (.pointer (some ⟨w1.heap.size, 0, none⟩)) :: (.bool false) :: (.func (.func 15) #[] #[]) :: (.pointer (some ⟨w3.heap.size, 0, none⟩)) :: (nv 6 [1]) :: (nv 6 [1]) :: (nv 6 [1, 1]) :: (nv 6 [1, 1, 0, 0, 0, 0]) :: undef :: undef :: undef :: undef :: undef :: undef :: undef :: undef :: undef :: undef :: undef :: undef :: undef :: undef :: undef :: undef :: undef :: undef :: undef :: undef :: undef :: undef :: undef :: undef :: undef :: undef :: undef :: undef :: undef :: undef :: undef :: undef :: undef :: undef :: undef :: undef :: undef :: undef :: undef :: undef :: undef :: undef :: undef :: undef :: undef :: undef :: undef :: undef :: undef :: undef :: undef :: []), []⟩) (t := 28) (xs := rows 6 [0, 0, 0, 0, 0, 0]) (ys := rows 6 [1, 1, 0, 0, 0, 0]) rfl rfl N7 (len_rows rfl) (ex_storen (K := 6) (l := [0, 0, 0, 0, 0, 0]) (m := [1, 1, 0, 0, 0, 0]) flFp6 rfl rfl N7 rfl) ?_
  intro w13 N13 hst13 hoth13
  have A14 := hoth13 _ _ _ (Nat.ne_of_lt A4.lt) A8
  have A15 := hoth13 _ _ _ (Nat.ne_of_lt N3.lt) A9
  have HB16 := hst13 _ _ HB10 HB5.size
  refine seq_nil ?_
  refine wp_seq (wp_region_p (F := ⟨List.toArray ((nv 6 [a0, a1, a2, a3, a4, a5]) :: (nv 6 [b0, b1, b2, b3, b4, b5]) :: (.pointer (some ⟨w.heap.size, 0, none⟩)) :: (.pointer (some ⟨w1.heap.size, 0, none⟩)) :: (.bool true) :: (.func (.func 15) #[] #[]) :: (.pointer (some ⟨w3.heap.size, 0, none⟩)) :: (nv 6 [1]) :: (nv 6 [1]) :: (nv 6 [1, 1]) :: (nv 6 [1, 1, 0, 0, 0, 0]) :: (.bool true) :: (.bool true) :: (.func (.func 15) #[] #[]) :: (nv 6 [a0, a1, a2, a3, a4, a5]) :: (nv 6 [z1, z2, z3, z4, z5, z6]) :: (nv 6 [a0, a1, a2, a3, a4, a5]) :: (nv 6 [0, 0, 1, 0, 0, 0]) :: (nv 6 [z1, z2, z3, z4, z5, z6]) :: (.bool true) :: (.bool true) :: (.bool true) :: (.func (.func 15) #[] #[]) :: (.func (.func 15) #[] #[]) :: (.func (.func 15) #[] #[]) :: (nv 6 [a0, a1, a2, a3, a4, a5]) :: (nv 6 [z1, z2, z3, z4, z5, z6]) :: (nv 6 [z7, z8, z1, z2, z3, z4]) :: (nv 6 [z9, z10, z7, z8, z1, z2]) :: (nv 6 [a0, a1, a2, a3, a4, a5]) :: (nv 6 [1, 1, 0, 0, 0, 0]) :: (nv 6 [z9, z10, z7, z8, z1, z2]) :: (.bool true) :: (.bool true) :: (.bool true) :: (.func (.func 15) #[] #[]) :: (nv 6 [a0, a1, a2, a3, a4, a5]) :: (nv 6 [b0, b1, b2, b3, b4, b5]) :: (nv 6 [z11, z12, z13, z14, z15, z16]) :: (nv 6 [z17, z18, z11, z12, z13, z14]) :: (.func (.func 15) #[] #[]) :: (nv 6 [a0, a1, a2, a3, a4, a5]) :: (nv 6 [z1, z2, z3, z4, z5, z6]) :: (nv 6 [b0, b1, b2, b3, b4, b5]) :: (nv 6 [z17, z18, z11, z12, z13, z14]) :: (.bool true) :: (.bool true) :: (.bool true) :: (.func (.func 15) #[] #[]) :: (nv 6 [a0, a1, a2, a3, a4, a5]) :: (nv 6 [b0, b1, b2, b3, b4, b5]) :: (nv 6 [z19, z20, z21, z22, z23, z24]) :: (nv 6 [z25, z26, z19, z20, z21, z22]) :: (.func (.func 15) #[] #[]) :: (nv 6 [a0, a1, a2, a3, a4, a5]) :: (nv 6 [z1, z2, z3, z4, z5, z6]) :: (.func (.func 15) #[] #[]) :: (nv 6 [b0, b1, b2, b3, b4, b5]) :: (nv 6 [z27, z28, z29, z30, z31, z32]) :: (nv 6 [z25, z26, z19, z20, z21, z22]) :: (.bool true) :: (.bool true) :: []), []⟩) (S := Bel w13) [(11, .bool true), (12, .bool true), (13, .func (.func 15) #[] #[]), (14, nv 6 [a0, a1, a2, a3, a4, a5]), (15, nv 6 [z1, z2, z3, z4, z5, z6]), (16, nv 6 [a0, a1, a2, a3, a4, a5]), (17, nv 6 [0, 0, 1, 0, 0, 0]), (18, nv 6 [z1, z2, z3, z4, z5, z6]), (19, .bool true), (20, .bool true), (21, .bool true), (22, .func (.func 15) #[] #[]), (23, .func (.func 15) #[] #[]), (24, .func (.func 15) #[] #[]), (25, nv 6 [a0, a1, a2, a3, a4, a5]), (26, nv 6 [z1, z2, z3, z4, z5, z6]), (27, nv 6 [z7, z8, z1, z2, z3, z4]), (28, nv 6 [z9, z10, z7, z8, z1, z2]), (29, nv 6 [a0, a1, a2, a3, a4, a5]), (30, nv 6 [1, 1, 0, 0, 0, 0]), (31, nv 6 [z9, z10, z7, z8, z1, z2]), (32, .bool true), (33, .bool true), (34, .bool true), (35, .func (.func 15) #[] #[]), (36, nv 6 [a0, a1, a2, a3, a4, a5]), (37, nv 6 [b0, b1, b2, b3, b4, b5]), (38, nv 6 [z11, z12, z13, z14, z15, z16]), (39, nv 6 [z17, z18, z11, z12, z13, z14]), (40, .func (.func 15) #[] #[]), (41, nv 6 [a0, a1, a2, a3, a4, a5]), (42, nv 6 [z1, z2, z3, z4, z5, z6]), (43, nv 6 [b0, b1, b2, b3, b4, b5]), (44, nv 6 [z17, z18, z11, z12, z13, z14]), (45, .bool true), (46, .bool true), (47, .bool true), (48, .func (.func 15) #[] #[]), (49, nv 6 [a0, a1, a2, a3, a4, a5]), (50, nv 6 [b0, b1, b2, b3, b4, b5]), (51, nv 6 [z19, z20, z21, z22, z23, z24]), (52, nv 6 [z25, z26, z19, z20, z21, z22]), (53, .func (.func 15) #[] #[]), (54, nv 6 [a0, a1, a2, a3, a4, a5]), (55, nv 6 [z1, z2, z3, z4, z5, z6]), (56, .func (.func 15) #[] #[]), (57, nv 6 [b0, b1, b2, b3, b4, b5]), (58, nv 6 [z27, z28, z29, z30, z31, z32]), (59, nv 6 [z25, z26, z19, z20, z21, z22]), (60, .bool true), (61, .bool true), (4, .bool true)] (by kernel_rfl) (by kernel_rfl) (by kernel_rfl) (by kernel_rfl) rfl (by simp only [putAll, List.setIfInBounds_toArray, List.set_cons_zero, List.set_cons_succ]) (Bel.start _) ?_ ?_)
  · refine PlanSteps.cons (ps_call (v := .bool true) rfl rfl rfl (fun W' => ex_call (vs := []) rfl Try.call8 rfl) (fun W' h => sextalive_w _)) ?_
    refine PlanSteps.cons (ps_val (v := .bool true) rfl rfl rfl (fun W' h => ex_move _)) ?_
    refine PlanSteps.cons (ps_val (v := .func (.func 15) #[] #[]) rfl rfl rfl (fun W' h => ex_move _)) ?_
    refine PlanSteps.cons (ps_val (v := nv 6 [a0, a1, a2, a3, a4, a5]) rfl rfl rfl (fun W' h => ex_loadn (K := 6) (k := 0) (j := 6) (l := [a0, a1, a2, a3, a4, a5]) flFp6 rfl (A14.keep h.out) rfl _ rfl)) ?_
    refine PlanSteps.cons (ps_call (v := nv 6 [z1, z2, z3, z4, z5, z6]) rfl rfl rfl (fun W' => ex_call (vs := [nv 6 [a0, a1, a2, a3, a4, a5]]) rfl Try.call15 rfl) (fun W' h => sextShift_r ra0 ra1 ra2 ra3 ra4 ra5 la0 la1 la2 la3 la4 la5 bz1 bz2 bz3 bz4 bz5 bz6 rz1 rz2 rz3 rz4 rz5 rz6 _)) ?_
    refine PlanSteps.cons (ps_val (v := nv 6 [a0, a1, a2, a3, a4, a5]) rfl rfl rfl (fun W' h => ex_loadn (K := 6) (k := 0) (j := 6) (l := [a0, a1, a2, a3, a4, a5]) flFp6 rfl (A14.keep h.out) rfl _ rfl)) ?_
    refine PlanSteps.cons (ps_call (v := nv 6 [0, 0, 1, 0, 0, 0]) rfl rfl rfl (fun W' => ex_call (vs := []) rfl Try.call22 rfl) (fun W' h => sextv_w _)) ?_
    refine PlanSteps.cons (ps_call (v := nv 6 [z1, z2, z3, z4, z5, z6]) rfl rfl rfl (fun W' => ex_call (vs := [nv 6 [a0, a1, a2, a3, a4, a5], nv 6 [0, 0, 1, 0, 0, 0]]) rfl Try.call17 rfl) (fun W' h => sextMul_r ra0 ra1 ra2 ra3 ra4 ra5 rep_0 rep_0 rep_1 rep_0 rep_0 rep_0 la0 la1 la2 la3 la4 la5 zero_B zero_B one_B zero_B zero_B zero_B bz1 bz2 bz3 bz4 bz5 bz6 (rep_to rz1 (sh0 x0 x1 x2 x3 x4 x5)) (rep_to rz2 (sh1 x0 x1 x2 x3 x4 x5)) (rep_to rz3 (sh2 x0 x1 x2 x3 x4 x5)) (rep_to rz4 (sh3 x0 x1 x2 x3 x4 x5)) (rep_to rz5 (sh4 x0 x1 x2 x3 x4 x5)) (rep_to rz6 (sh5 x0 x1 x2 x3 x4 x5)) _)) ?_
    refine PlanSteps.cons (ps_val (v := .bool true) rfl rfl rfl (fun W' h => ex_eqt (K := 6) (l := [z1, z2, z3, z4, z5, z6]) eqFp6 rfl rfl rfl rfl)) ?_
    refine PlanSteps.cons (ps_val (v := .bool true) rfl rfl rfl (fun W' h => ex_pick (r := true) rfl)) ?_
    refine PlanSteps.cons (ps_val (v := .bool true) rfl rfl rfl (fun W' h => ex_move _)) ?_
    refine PlanSteps.cons (ps_val (v := .func (.func 15) #[] #[]) rfl rfl rfl (fun W' h => ex_move _)) ?_
    refine PlanSteps.cons (ps_val (v := .func (.func 15) #[] #[]) rfl rfl rfl (fun W' h => ex_move _)) ?_
    refine PlanSteps.cons (ps_val (v := .func (.func 15) #[] #[]) rfl rfl rfl (fun W' h => ex_move _)) ?_
    refine PlanSteps.cons (ps_val (v := nv 6 [a0, a1, a2, a3, a4, a5]) rfl rfl rfl (fun W' h => ex_loadn (K := 6) (k := 0) (j := 6) (l := [a0, a1, a2, a3, a4, a5]) flFp6 rfl (A14.keep h.out) rfl _ rfl)) ?_
    refine PlanSteps.cons (ps_call (v := nv 6 [z1, z2, z3, z4, z5, z6]) rfl rfl rfl (fun W' => ex_call (vs := [nv 6 [a0, a1, a2, a3, a4, a5]]) rfl Try.call15 rfl) (fun W' h => sextShift_r ra0 ra1 ra2 ra3 ra4 ra5 la0 la1 la2 la3 la4 la5 bz1 bz2 bz3 bz4 bz5 bz6 rz1 rz2 rz3 rz4 rz5 rz6 _)) ?_
    refine PlanSteps.cons (ps_call (v := nv 6 [z7, z8, z1, z2, z3, z4]) rfl rfl rfl (fun W' => ex_call (vs := [nv 6 [z1, z2, z3, z4, z5, z6]]) rfl Try.call15 rfl) (fun W' h => sextShift_r rz1 rz2 rz3 rz4 rz5 rz6 (Nat.lt_trans bz1 fpM_lt) (Nat.lt_trans bz2 fpM_lt) (Nat.lt_trans bz3 fpM_lt) (Nat.lt_trans bz4 fpM_lt) (Nat.lt_trans bz5 fpM_lt) (Nat.lt_trans bz6 fpM_lt) bz7 bz8 bz1 bz2 bz3 bz4 rz7 rz8 (rep_to rz1 (sh6 x4 x5)) (rep_to rz2 (sh7 x4 x5)) rz3 rz4 _)) ?_
    refine PlanSteps.cons (ps_call (v := nv 6 [z9, z10, z7, z8, z1, z2]) rfl rfl rfl (fun W' => ex_call (vs := [nv 6 [z7, z8, z1, z2, z3, z4]]) rfl Try.call15 rfl) (fun W' h => sextShift_r rz7 rz8 rz1 rz2 rz3 rz4 (Nat.lt_trans bz7 fpM_lt) (Nat.lt_trans bz8 fpM_lt) (Nat.lt_trans bz1 fpM_lt) (Nat.lt_trans bz2 fpM_lt) (Nat.lt_trans bz3 fpM_lt) (Nat.lt_trans bz4 fpM_lt) bz9 bz10 bz7 bz8 bz1 bz2 rz9 rz10 (rep_to rz7 (sh8 x2 x3)) (rep_to rz8 (sh9 x2 x3)) (rep_to rz1 (sh6 x4 x5)) (rep_to rz2 (sh7 x4 x5)) _)) ?_
    refine PlanSteps.cons (ps_val (v := nv 6 [a0, a1, a2, a3, a4, a5]) rfl rfl rfl (fun W' h => ex_loadn (K := 6) (k := 0) (j := 6) (l := [a0, a1, a2, a3, a4, a5]) flFp6 rfl (A14.keep h.out) rfl _ rfl)) ?_
    refine PlanSteps.cons (ps_val (v := nv 6 [1, 1, 0, 0, 0, 0]) rfl rfl rfl (fun W' h => ex_loadn (K := 6) (k := 0) (j := 6) (l := [1, 1, 0, 0, 0, 0]) flFp6 rfl (N13.keep h.out) rfl _ rfl)) ?_
    refine PlanSteps.cons (ps_call (v := nv 6 [z9, z10, z7, z8, z1, z2]) rfl rfl rfl (fun W' => ex_call (vs := [nv 6 [a0, a1, a2, a3, a4, a5], nv 6 [1, 1, 0, 0, 0, 0]]) rfl Try.call17 rfl) (fun W' h => sextMul_r ra0 ra1 ra2 ra3 ra4 ra5 rep_1 rep_1 rep_0 rep_0 rep_0 rep_0 la0 la1 la2 la3 la4 la5 one_B one_B zero_B zero_B zero_B zero_B bz9 bz10 bz7 bz8 bz1 bz2 (rep_to rz9 (sh10 x0 x1 x2 x3 x4 x5)) (rep_to rz10 (sh11 x0 x1 x2 x3 x4 x5)) (rep_to rz7 (sh12 x0 x1 x2 x3 x4 x5)) (rep_to rz8 (sh13 x0 x1 x2 x3 x4 x5)) (rep_to rz1 (sh14 x0 x1 x2 x3 x4 x5)) (rep_to rz2 (sh15 x0 x1 x2 x3 x4 x5)) _)) ?_
    refine PlanSteps.cons (ps_val (v := .bool true) rfl rfl rfl (fun W' h => ex_eqt (K := 6) (l := [z9, z10, z7, z8, z1, z2]) eqFp6 rfl rfl rfl rfl)) ?_
    refine PlanSteps.cons (ps_val (v := .bool true) rfl rfl rfl (fun W' h => ex_pick (r := true) rfl)) ?_
    refine PlanSteps.cons (ps_val (v := .bool true) rfl rfl rfl (fun W' h => ex_move _)) ?_
    refine PlanSteps.cons (ps_val (v := .func (.func 15) #[] #[]) rfl rfl rfl (fun W' h => ex_move _)) ?_
    refine PlanSteps.cons (ps_val (v := nv 6 [a0, a1, a2, a3, a4, a5]) rfl rfl rfl (fun W' h => ex_loadn (K := 6) (k := 0) (j := 6) (l := [a0, a1, a2, a3, a4, a5]) flFp6 rfl (A14.keep h.out) rfl _ rfl)) ?_
    refine PlanSteps.cons (ps_val (v := nv 6 [b0, b1, b2, b3, b4, b5]) rfl rfl rfl (fun W' h => ex_loadn (K := 6) (k := 0) (j := 6) (l := [b0, b1, b2, b3, b4, b5]) flFp6 rfl (A15.keep h.out) rfl _ rfl)) ?_
    refine PlanSteps.cons (ps_call (v := nv 6 [z11, z12, z13, z14, z15, z16]) rfl rfl rfl (fun W' => ex_call (vs := [nv 6 [a0, a1, a2, a3, a4, a5], nv 6 [b0, b1, b2, b3, b4, b5]]) rfl Try.call17 rfl) (fun W' h => sextMul_r ra0 ra1 ra2 ra3 ra4 ra5 rb0 rb1 rb2 rb3 rb4 rb5 la0 la1 la2 la3 la4 la5 lb0 lb1 lb2 lb3 lb4 lb5 bz11 bz12 bz13 bz14 bz15 bz16 rz11 rz12 rz13 rz14 rz15 rz16 _)) ?_
    refine PlanSteps.cons (ps_call (v := nv 6 [z17, z18, z11, z12, z13, z14]) rfl rfl rfl (fun W' => ex_call (vs := [nv 6 [z11, z12, z13, z14, z15, z16]]) rfl Try.call15 rfl) (fun W' h => sextShift_r rz11 rz12 rz13 rz14 rz15 rz16 (Nat.lt_trans bz11 fpM_lt) (Nat.lt_trans bz12 fpM_lt) (Nat.lt_trans bz13 fpM_lt) (Nat.lt_trans bz14 fpM_lt) (Nat.lt_trans bz15 fpM_lt) (Nat.lt_trans bz16 fpM_lt) bz17 bz18 bz11 bz12 bz13 bz14 (rep_to rz17 (sh16 x0 x1 x2 x3 x4 x5 y0 y1 y2 y3 y4 y5)) (rep_to rz18 (sh17 x0 x1 x2 x3 x4 x5 y0 y1 y2 y3 y4 y5)) (rep_to rz11 (sh18 x0 x1 x2 x3 x4 x5 y0 y1 y2 y3 y4 y5)) (rep_to rz12 (sh19 x0 x1 x2 x3 x4 x5 y0 y1 y2 y3 y4 y5)) (rep_to rz13 (sh20 x0 x1 x2 x3 x4 x5 y0 y1 y2 y3 y4 y5)) (rep_to rz14 (sh21 x0 x1 x2 x3 x4 x5 y0 y1 y2 y3 y4 y5)) _)) ?_
    refine PlanSteps.cons (ps_val (v := .func (.func 15) #[] #[]) rfl rfl rfl (fun W' h => ex_move _)) ?_
    refine PlanSteps.cons (ps_val (v := nv 6 [a0, a1, a2, a3, a4, a5]) rfl rfl rfl (fun W' h => ex_loadn (K := 6) (k := 0) (j := 6) (l := [a0, a1, a2, a3, a4, a5]) flFp6 rfl (A14.keep h.out) rfl _ rfl)) ?_
    refine PlanSteps.cons (ps_call (v := nv 6 [z1, z2, z3, z4, z5, z6]) rfl rfl rfl (fun W' => ex_call (vs := [nv 6 [a0, a1, a2, a3, a4, a5]]) rfl Try.call15 rfl) (fun W' h => sextShift_r ra0 ra1 ra2 ra3 ra4 ra5 la0 la1 la2 la3 la4 la5 bz1 bz2 bz3 bz4 bz5 bz6 rz1 rz2 rz3 rz4 rz5 rz6 _)) ?_
    refine PlanSteps.cons (ps_val (v := nv 6 [b0, b1, b2, b3, b4, b5]) rfl rfl rfl (fun W' h => ex_loadn (K := 6) (k := 0) (j := 6) (l := [b0, b1, b2, b3, b4, b5]) flFp6 rfl (A15.keep h.out) rfl _ rfl)) ?_
    refine PlanSteps.cons (ps_call (v := nv 6 [z17, z18, z11, z12, z13, z14]) rfl rfl rfl (fun W' => ex_call (vs := [nv 6 [z1, z2, z3, z4, z5, z6], nv 6 [b0, b1, b2, b3, b4, b5]]) rfl Try.call17 rfl) (fun W' h => sextMul_r rz1 rz2 rz3 rz4 rz5 rz6 rb0 rb1 rb2 rb3 rb4 rb5 (Nat.lt_trans bz1 fpM_lt) (Nat.lt_trans bz2 fpM_lt) (Nat.lt_trans bz3 fpM_lt) (Nat.lt_trans bz4 fpM_lt) (Nat.lt_trans bz5 fpM_lt) (Nat.lt_trans bz6 fpM_lt) lb0 lb1 lb2 lb3 lb4 lb5 bz17 bz18 bz11 bz12 bz13 bz14 (rep_to rz17 (sh22 x0 x1 x2 x3 x4 x5 y0 y1 y2 y3 y4 y5)) (rep_to rz18 (sh23 x0 x1 x2 x3 x4 x5 y0 y1 y2 y3 y4 y5)) (rep_to rz11 (sh24 x0 x1 x2 x3 x4 x5 y0 y1 y2 y3 y4 y5)) (rep_to rz12 (sh25 x0 x1 x2 x3 x4 x5 y0 y1 y2 y3 y4 y5)) (rep_to rz13 (sh26 x0 x1 x2 x3 x4 x5 y0 y1 y2 y3 y4 y5)) (rep_to rz14 (sh27 x0 x1 x2 x3 x4 x5 y0 y1 y2 y3 y4 y5)) _)) ?_
    refine PlanSteps.cons (ps_val (v := .bool true) rfl rfl rfl (fun W' h => ex_eqt (K := 6) (l := [z17, z18, z11, z12, z13, z14]) eqFp6 rfl rfl rfl rfl)) ?_
    refine PlanSteps.cons (ps_val (v := .bool true) rfl rfl rfl (fun W' h => ex_pick (r := true) rfl)) ?_
    refine PlanSteps.cons (ps_val (v := .bool true) rfl rfl rfl (fun W' h => ex_move _)) ?_
    refine PlanSteps.cons (ps_val (v := .func (.func 15) #[] #[]) rfl rfl rfl (fun W' h => ex_move _)) ?_
    refine PlanSteps.cons (ps_val (v := nv 6 [a0, a1, a2, a3, a4, a5]) rfl rfl rfl (fun W' h => ex_loadn (K := 6) (k := 0) (j := 6) (l := [a0, a1, a2, a3, a4, a5]) flFp6 rfl (A14.keep h.out) rfl _ rfl)) ?_
    refine PlanSteps.cons (ps_val (v := nv 6 [b0, b1, b2, b3, b4, b5]) rfl rfl rfl (fun W' h => ex_loadn (K := 6) (k := 0) (j := 6) (l := [b0, b1, b2, b3, b4, b5]) flFp6 rfl (A15.keep h.out) rfl _ rfl)) ?_
    refine PlanSteps.cons (ps_call (v := nv 6 [z19, z20, z21, z22, z23, z24]) rfl rfl rfl (fun W' => ex_call (vs := [nv 6 [a0, a1, a2, a3, a4, a5], nv 6 [b0, b1, b2, b3, b4, b5]]) rfl Try.call10 rfl) (fun W' h => sextAdd_r ra0 ra1 ra2 ra3 ra4 ra5 rb0 rb1 rb2 rb3 rb4 rb5 la0 la1 la2 la3 la4 la5 lb0 lb1 lb2 lb3 lb4 lb5 bz19 bz20 bz21 bz22 bz23 bz24 rz19 rz20 rz21 rz22 rz23 rz24 _)) ?_
    refine PlanSteps.cons (ps_call (v := nv 6 [z25, z26, z19, z20, z21, z22]) rfl rfl rfl (fun W' => ex_call (vs := [nv 6 [z19, z20, z21, z22, z23, z24]]) rfl Try.call15 rfl) (fun W' h => sextShift_r rz19 rz20 rz21 rz22 rz23 rz24 (Nat.lt_trans bz19 fpM_lt) (Nat.lt_trans bz20 fpM_lt) (Nat.lt_trans bz21 fpM_lt) (Nat.lt_trans bz22 fpM_lt) (Nat.lt_trans bz23 fpM_lt) (Nat.lt_trans bz24 fpM_lt) bz25 bz26 bz19 bz20 bz21 bz22 (rep_to rz25 (sh28 x4 x5 y4 y5)) (rep_to rz26 (sh29 x4 x5 y4 y5)) (rep_to rz19 (sh30 x0 y0)) (rep_to rz20 (sh31 x1 y1)) (rep_to rz21 (sh32 x2 y2)) (rep_to rz22 (sh33 x3 y3)) _)) ?_
    refine PlanSteps.cons (ps_val (v := .func (.func 15) #[] #[]) rfl rfl rfl (fun W' h => ex_move _)) ?_
    refine PlanSteps.cons (ps_val (v := nv 6 [a0, a1, a2, a3, a4, a5]) rfl rfl rfl (fun W' h => ex_loadn (K := 6) (k := 0) (j := 6) (l := [a0, a1, a2, a3, a4, a5]) flFp6 rfl (A14.keep h.out) rfl _ rfl)) ?_
    refine PlanSteps.cons (ps_call (v := nv 6 [z1, z2, z3, z4, z5, z6]) rfl rfl rfl (fun W' => ex_call (vs := [nv 6 [a0, a1, a2, a3, a4, a5]]) rfl Try.call15 rfl) (fun W' h => sextShift_r ra0 ra1 ra2 ra3 ra4 ra5 la0 la1 la2 la3 la4 la5 bz1 bz2 bz3 bz4 bz5 bz6 rz1 rz2 rz3 rz4 rz5 rz6 _)) ?_
    refine PlanSteps.cons (ps_val (v := .func (.func 15) #[] #[]) rfl rfl rfl (fun W' h => ex_move _)) ?_
    refine PlanSteps.cons (ps_val (v := nv 6 [b0, b1, b2, b3, b4, b5]) rfl rfl rfl (fun W' h => ex_loadn (K := 6) (k := 0) (j := 6) (l := [b0, b1, b2, b3, b4, b5]) flFp6 rfl (A15.keep h.out) rfl _ rfl)) ?_
    refine PlanSteps.cons (ps_call (v := nv 6 [z27, z28, z29, z30, z31, z32]) rfl rfl rfl (fun W' => ex_call (vs := [nv 6 [b0, b1, b2, b3, b4, b5]]) rfl Try.call15 rfl) (fun W' h => sextShift_r rb0 rb1 rb2 rb3 rb4 rb5 lb0 lb1 lb2 lb3 lb4 lb5 bz27 bz28 bz29 bz30 bz31 bz32 rz27 rz28 rz29 rz30 rz31 rz32 _)) ?_
    refine PlanSteps.cons (ps_call (v := nv 6 [z25, z26, z19, z20, z21, z22]) rfl rfl rfl (fun W' => ex_call (vs := [nv 6 [z1, z2, z3, z4, z5, z6], nv 6 [z27, z28, z29, z30, z31, z32]]) rfl Try.call10 rfl) (fun W' h => sextAdd_r rz1 rz2 rz3 rz4 rz5 rz6 rz27 rz28 rz29 rz30 rz31 rz32 (Nat.lt_trans bz1 fpM_lt) (Nat.lt_trans bz2 fpM_lt) (Nat.lt_trans bz3 fpM_lt) (Nat.lt_trans bz4 fpM_lt) (Nat.lt_trans bz5 fpM_lt) (Nat.lt_trans bz6 fpM_lt) (Nat.lt_trans bz27 fpM_lt) (Nat.lt_trans bz28 fpM_lt) (Nat.lt_trans bz29 fpM_lt) (Nat.lt_trans bz30 fpM_lt) (Nat.lt_trans bz31 fpM_lt) (Nat.lt_trans bz32 fpM_lt) bz25 bz26 bz19 bz20 bz21 bz22 (rep_to rz25 (sh34 x4 x5 y4 y5)) (rep_to rz26 (sh35 x4 x5 y4 y5)) rz19 rz20 rz21 rz22 _)) ?_
    refine PlanSteps.cons (ps_val (v := .bool true) rfl rfl rfl (fun W' h => ex_eqt (K := 6) (l := [z25, z26, z19, z20, z21, z22]) eqFp6 rfl rfl rfl rfl)) ?_
    refine PlanSteps.cons (ps_val (v := .bool true) rfl rfl rfl (fun W' h => ex_pick (r := true) rfl)) ?_
    refine PlanSteps.cons (ps_val (v := .bool true) rfl rfl rfl (fun W' h => ex_assign _)) ?_
    exact PlanSteps.nil
  intro w17 hb17
  refine then_n ?_
  have A18 := A14.keep hb17.out
  have A19 := A15.keep hb17.out
  have A20 := N13.keep hb17.out
  have HB21 := below_then HB16 hb17.out
  exact wp_ret (bodyPost_ret (ret_tmp Try.results6 rfl) rfl ⟨rfl, HB21⟩)

end Go.Proofs.Ytpjkcdkhfjcojaa

/- What is proved here: how often a point is taken; what is of the group; the reference's sum (chirographref08). -/
import Derived.Test.YticglgegfebnjaaOne1
namespace Go.Proofs.Yticglgegfebnjaa
open Go.RowKit Cv

theorem lit_g1x : nv 6 [g1x] = .agg #[.int .u64 18103045581585958587, .int .u64 7806400890582735599, .int .u64 11623291730934869080, .int .u64 14080658508445169925, .int .u64 2780237799254240271, .int .u64 1725392847304644500] := by rw [nv6]; kernel_rfl
theorem g1x_B : g1x < fpB := by decide +kernel
theorem lit_g1y : nv 6 [g1y] = .agg #[.int .u64 912580534683953121, .int .u64 15005087156090211044, .int .u64 61670280795567085, .int .u64 18227722000993880822, .int .u64 11573741888802228964, .int .u64 627113611842199793] := by rw [nv6]; kernel_rfl
theorem g1y_B : g1y < fpB := by decide +kernel

set_option maxRecDepth 20000 in
set_option maxHeartbeats 4000000 in
theorem oneGen_v (w : World) :
    Calls Try.prog 13 #[] w (Is (sv [.n 6 g1x, .n 6 g1y, .b false]) w) := by
  go_enter Try.func13, Try.ntmps13
  refine wp_seq (region_m (F := fun γ => ⟨#[.pointer (some ⟨γ 0, 0, none⟩), undef, undef, undef], []⟩) 1 (fun _ => 26) (fun _ => 0) (fun _ => 0) (fun _ => segs [.n 6 0, .n 6 0, .b false]) (fun _ => segs [.n 6 0, .n 6 0, .b false]) [0] (.inr ⟨rfl, by kernel_rfl⟩) (by kernel_rfl) rfl rfl rfl ?_ ?_)
  · refine GSteps.cons (gm_box 0 rfl (fun _ => rfl) (fun _ _ => rfl) (fun γ w h => ex_allocs (l := [.n 6 0, .n 6 0, .b false]) zG1) rfl rfl rfl) ?_
    exact GSteps.nil
  intro γ1 w1 hb1 hB1 _
  refine th_r ?_
  have A2 : SB 26 w1 (γ1 0) [.n 6 0, .n 6 0, .b false] := (hB1 0 (by decide)).2
  have le2 := (hB1 0 (by decide)).1
  have HB3 := below_then (Below.refl w.heap.size w) hb1.out
  refine wp_seq (region_ms (F := fun _ => ⟨#[.pointer (some ⟨(γ1 0), 0, none⟩), nv 6 [g1x], nv 6 [g1y], sv [.n 6 g1x, .n 6 g1y, .b false]], []⟩) 3 ((γ1 0)) 0 (segs [.n 6 g1x, .n 6 g1y, .b false]) 0 (fun _ => 0) (fun _ => 0) (fun _ => 0) (fun _ => []) (fun _ => []) [1, 2, 3] (.inr ⟨rfl, by kernel_rfl⟩) (by kernel_rfl) rfl rfl rfl ?_ ?_)
  · refine GSteps.cons (late_step (gm_val (v := nv 6 [g1x]) rfl (fun _ => rfl) (fun _ => rfl) (fun γ w h => ex_six lit_g1x (fun _ => rfl)) rfl) (by kernel_rfl) rfl) ?_
    refine GSteps.cons (late_step (gm_val (v := nv 6 [g1y]) rfl (fun _ => rfl) (fun _ => rfl) (fun γ w h => ex_six lit_g1y (fun _ => rfl)) rfl) (by kernel_rfl) rfl) ?_
    refine GSteps.cons (late_step (gm_val (v := sv [.n 6 g1x, .n 6 g1y, .b false]) rfl (fun _ => rfl) (fun _ => rfl) (fun γ w h => ex_builds stG1 (l := [.n 6 g1x, .n 6 g1y, .b false]) (vs := [(0, nv 6 [g1x]), (1, nv 6 [g1y])]) rfl ((fills_cons 0 1 (m := [.n 6 g1x]) (z' := [.n 6 g1x, .n 6 0, .b false]) rfl (nv_cells 6 [g1x]) rfl rfl rfl rfl).trans ((fills_cons 1 1 (m := [.n 6 g1y]) (z' := [.n 6 g1x, .n 6 g1y, .b false]) rfl (nv_cells 6 [g1y]) rfl rfl rfl rfl).trans rfl))) rfl) (by kernel_rfl) rfl) ?_
    refine GSteps.cons (late_store rfl (fun _ => rfl) (fun γ w h => ex_stores 0 3 (l := [.n 6 0, .n 6 0, .b false]) (m := [.n 6 g1x, .n 6 g1y, .b false]) flG1.2 rfl rfl rfl rfl (A2.keep h.out) rfl rfl) rfl) ?_
    exact GSteps.nil
  intro _ w4 w4_ hb4 _ _ hs4
  refine th_r ?_
  have A5 := A2.keep hb4.out
  have HB6 := below_then HB3 hb4.out
  have A7 := hs4.here 0 3 (l' := [.n 6 g1x, .n 6 g1y, .b false]) A5 rfl rfl rfl
  have HB8 := hs4.below HB6 (Nat.le_trans (Nat.le_refl _) le2)
  exact wp_ret (bodyPost_ret (ret1 Try.results13 (res_sv rfl A7 flG1 rfl)) rfl ⟨rfl, HB8⟩)

set_option maxRecDepth 20000 in
set_option maxHeartbeats 4000000 in
theorem r8Some_v (w : World) :
    Calls Try.prog 30 #[.int .i64 0] w (Is (sv [.n 6 g1x, .n 6 g1y, .b false]) w) := by
  go_enter Try.func30, Try.ntmps30
  refine wp_seq (region_m (F := fun γ => ⟨List.toArray ((.int .i64 0) :: undef :: (.pointer (some ⟨γ 0, 0, none⟩)) :: undef :: undef :: undef :: undef :: undef :: undef :: undef :: undef :: undef :: undef :: undef :: undef :: undef :: undef :: undef :: undef :: undef :: undef :: undef :: undef :: undef :: undef :: undef :: undef :: undef :: undef :: undef :: undef :: undef :: undef :: undef :: undef :: undef :: undef :: undef :: undef :: undef :: undef :: undef :: undef :: undef :: undef :: []), []⟩) 1 (fun _ => 26) (fun _ => 0) (fun _ => 0) (fun _ => segs [.n 6 0, .n 6 0, .b false]) (fun _ => segs [.n 6 0, .n 6 0, .b false]) [2] (.inr ⟨rfl, by kernel_rfl⟩) (by kernel_rfl) rfl rfl rfl ?_ ?_)
  · refine GSteps.cons (gm_box 0 rfl (fun _ => rfl) (fun _ _ => rfl) (fun γ w h => ex_allocs (l := [.n 6 0, .n 6 0, .b false]) zG1) rfl rfl rfl) ?_
    exact GSteps.nil
  intro γ1 w1 hb1 hB1 _
  refine th_r ?_
  have A2 : SB 26 w1 (γ1 0) [.n 6 0, .n 6 0, .b false] := (hB1 0 (by decide)).2
  have le2 := (hB1 0 (by decide)).1
  have HB3 := below_then (Below.refl w.heap.size w) hb1.out
  refine wp_seq ?_
  refine wp_seq (region_m (F := fun _ => ⟨List.toArray ((.int .i64 0) :: undef :: (.pointer (some ⟨(γ1 0), 0, none⟩)) :: (.int .i64 0) :: undef :: undef :: undef :: undef :: undef :: undef :: undef :: undef :: undef :: undef :: undef :: undef :: undef :: undef :: undef :: undef :: undef :: undef :: undef :: undef :: undef :: undef :: undef :: undef :: undef :: undef :: undef :: undef :: undef :: undef :: undef :: undef :: undef :: undef :: undef :: undef :: undef :: undef :: undef :: undef :: undef :: []), []⟩) 0 (fun _ => 0) (fun _ => 0) (fun _ => 0) (fun _ => []) (fun _ => []) [3] (.inr ⟨rfl, by kernel_rfl⟩) (by kernel_rfl) rfl rfl rfl ?_ ?_)
  · refine GSteps.cons (gm_val (v := .int .i64 0) rfl (fun _ => rfl) (fun _ => rfl) (fun γ w h => ex_move _) rfl) ?_
    exact GSteps.nil
  intro _ w4 hb4 _ _
  refine th_r ?_
  have A5 := A2.keep hb4.out
  have HB6 := below_then HB3 hb4.out
  refine wp_block ?_
  refine wp_seq (region_m (F := fun _ => ⟨List.toArray ((.int .i64 0) :: undef :: (.pointer (some ⟨(γ1 0), 0, none⟩)) :: (.int .i64 0) :: (.bool true) :: (.bool true) :: undef :: undef :: undef :: undef :: undef :: undef :: undef :: undef :: undef :: undef :: undef :: undef :: undef :: undef :: undef :: undef :: undef :: undef :: undef :: undef :: undef :: undef :: undef :: undef :: undef :: undef :: undef :: undef :: undef :: undef :: undef :: undef :: undef :: undef :: undef :: undef :: undef :: undef :: undef :: []), []⟩) 0 (fun _ => 0) (fun _ => 0) (fun _ => 0) (fun _ => []) (fun _ => []) [5, 4] (.inr ⟨rfl, by kernel_rfl⟩) (by kernel_rfl) rfl rfl rfl ?_ ?_)
  · refine GSteps.cons (gm_val (v := .bool true) rfl (fun _ => rfl) (fun _ => rfl) (fun γ w h => ex_eqi rfl rfl _ rfl) rfl) ?_
    refine GSteps.cons (gm_val (v := .bool true) rfl (fun _ => rfl) (fun _ => rfl) (fun γ w h => ex_assign _) rfl) ?_
    exact GSteps.nil
  intro _ w7 hb7 _ _
  refine th_r ?_
  have A8 := A5.keep hb7.out
  have HB9 := below_then HB6 hb7.out
  refine wp_cond_true rfl ?_
  refine wp_seq (region_ms (F := fun _ => ⟨List.toArray ((.int .i64 0) :: undef :: (.pointer (some ⟨(γ1 0), 0, none⟩)) :: (.int .i64 0) :: (.bool true) :: (.bool true) :: (nv 6 [g1x]) :: (nv 6 [g1y]) :: (sv [.n 6 g1x, .n 6 g1y, .b false]) :: undef :: undef :: undef :: undef :: undef :: undef :: undef :: undef :: undef :: undef :: undef :: undef :: undef :: undef :: undef :: undef :: undef :: undef :: undef :: undef :: undef :: undef :: undef :: undef :: undef :: undef :: undef :: undef :: undef :: undef :: undef :: undef :: undef :: undef :: undef :: undef :: []), []⟩) 3 ((γ1 0)) 0 (segs [.n 6 g1x, .n 6 g1y, .b false]) 0 (fun _ => 0) (fun _ => 0) (fun _ => 0) (fun _ => []) (fun _ => []) [6, 7, 8] (.inr ⟨rfl, by kernel_rfl⟩) (by kernel_rfl) rfl rfl rfl ?_ ?_)
  · refine GSteps.cons (late_step (gm_val (v := nv 6 [g1x]) rfl (fun _ => rfl) (fun _ => rfl) (fun γ w h => ex_six lit_g1x (fun _ => rfl)) rfl) (by kernel_rfl) rfl) ?_
    refine GSteps.cons (late_step (gm_val (v := nv 6 [g1y]) rfl (fun _ => rfl) (fun _ => rfl) (fun γ w h => ex_six lit_g1y (fun _ => rfl)) rfl) (by kernel_rfl) rfl) ?_
    refine GSteps.cons (late_step (gm_val (v := sv [.n 6 g1x, .n 6 g1y, .b false]) rfl (fun _ => rfl) (fun _ => rfl) (fun γ w h => ex_builds stG1 (l := [.n 6 g1x, .n 6 g1y, .b false]) (vs := [(0, nv 6 [g1x]), (1, nv 6 [g1y])]) rfl ((fills_cons 0 1 (m := [.n 6 g1x]) (z' := [.n 6 g1x, .n 6 0, .b false]) rfl (nv_cells 6 [g1x]) rfl rfl rfl rfl).trans ((fills_cons 1 1 (m := [.n 6 g1y]) (z' := [.n 6 g1x, .n 6 g1y, .b false]) rfl (nv_cells 6 [g1y]) rfl rfl rfl rfl).trans rfl))) rfl) (by kernel_rfl) rfl) ?_
    refine GSteps.cons (late_store rfl (fun _ => rfl) (fun γ w h => ex_stores 0 3 (l := [.n 6 0, .n 6 0, .b false]) (m := [.n 6 g1x, .n 6 g1y, .b false]) flG1.2 rfl rfl rfl rfl (A8.keep h.out) rfl rfl) rfl) ?_
    exact GSteps.nil
  intro _ w10 w10_ hb10 _ _ hs10
  refine th_r ?_
  have A11 := A8.keep hb10.out
  have HB12 := below_then HB9 hb10.out
  have A13 := hs10.here 0 3 (l' := [.n 6 g1x, .n 6 g1y, .b false]) A11 rfl rfl rfl
  have HB14 := hs10.below HB12 (Nat.le_trans (Nat.le_refl _) le2)
  exact wp_ret (bk_r (th_ret (bodyPost_ret (ret1 Try.results30 (res_sv rfl A13 flG1 rfl)) rfl ⟨rfl, HB14⟩)))

/-- The point at infinity. -/
def Z1 : E1 := EP.zero
theorem oneZero_p (w : World) : Calls Try.prog 14 #[] w (Is (sv [.n 6 (ax Z1.pt), .n 6 (ay Z1.pt), .b (ai Z1.pt)]) w) := oneZero_v w
end Go.Proofs.Yticglgegfebnjaa

/- What is proved here: how often a point is taken; what is of the group; the reference's sum (chirographref08). -/
import Derived.Test.YticglgegfebnjaaOne1
namespace Go.Proofs.Yticglgegfebnjaa
open Go.RowKit Cv

theorem lit_g1x : nv 6 [g1x] = .agg #[.int .u64 18103045581585958587, .int .u64 7806400890582735599, .int .u64 11623291730934869080, .int .u64 14080658508445169925, .int .u64 2780237799254240271, .int .u64 1725392847304644500] := by rw [nv6]; kernel_rfl
theorem g1x_B : g1x < fpB := by decide +kernel
theorem lit_g1y : nv 6 [g1y] = .agg #[.int .u64 912580534683953121, .int .u64 15005087156090211044, .int .u64 61670280795567085, .int .u64 18227722000993880822, .int .u64 11573741888802228964, .int .u64 627113611842199793] := by rw [nv6]; kernel_rfl
theorem g1y_B : g1y < fpB := by decide +kernel

set_option maxRecDepth 20000 in
set_option maxHeartbeats 4000000 in
theorem oneGen_v (w : World) :
    Calls Try.prog 13 #[] w (Is (sv [.n 6 g1x, .n 6 g1y, .b false]) w) := by
  go_enter Try.func13, Try.ntmps13
  refine wp_seq (region_m (F := fun γ => ⟨#[.pointer (some ⟨γ 0, 0, none⟩), undef, undef, undef], []⟩) 1 (fun _ => 26) (fun _ => 0) (fun _ => 0) (fun _ => segs [.n 6 0, .n 6 0, .b false]) (fun _ => segs [.n 6 0, .n 6 0, .b false]) [0] (.inr ⟨rfl, by kernel_rfl⟩) (by kernel_rfl) rfl rfl rfl ?_ ?_)
  · refine GSteps.cons (gm_box 0 rfl (fun _ => rfl) (fun _ _ => rfl) (fun γ w h => ex_allocs (l := [.n 6 0, .n 6 0, .b false]) zG1) rfl rfl rfl) ?_
    exact GSteps.nil
  intro γ1 w1 hb1 hB1 _
  refine th_r ?_
  have A2 : SB 26 w1 (γ1 0) [.n 6 0, .n 6 0, .b false] := (hB1 0 (by decide)).2
  have le2 := (hB1 0 (by decide)).1
  have HB3 := below_then (Below.refl w.heap.size w) hb1.out
  refine wp_seq (region_ms (F := fun _ => ⟨#[.pointer (some ⟨(γ1 0), 0, none⟩), nv 6 [g1x], nv 6 [g1y], sv [.n 6 g1x, .n 6 g1y, .b false]], []⟩) 3 ((γ1 0)) 0 (segs [.n 6 g1x, .n 6 g1y, .b false]) 0 (fun _ => 0) (fun _ => 0) (fun _ => 0) (fun _ => []) (fun _ => []) [1, 2, 3] (.inr ⟨rfl, by kernel_rfl⟩) (by kernel_rfl) rfl rfl rfl ?_ ?_)
  · refine GSteps.cons (late_step (gm_val (v := nv 6 [g1x]) rfl (fun _ => rfl) (fun _ => rfl) (fun γ w h => ex_six lit_g1x (fun _ => rfl)) rfl) (by kernel_rfl) rfl) ?_
    refine GSteps.cons (late_step (gm_val (v := nv 6 [g1y]) rfl (fun _ => rfl) (fun _ => rfl) (fun γ w h => ex_six lit_g1y (fun _ => rfl)) rfl) (by kernel_rfl) rfl) ?_
    refine GSteps.cons (late_step (gm_val (v := sv [.n 6 g1x, .n 6 g1y, .b false]) rfl (fun _ => rfl) (fun _ => rfl) (fun γ w h => ex_builds stG1 (l := [.n 6 g1x, .n 6 g1y, .b false]) (vs := [(0, nv 6 [g1x]), (1, nv 6 [g1y])]) rfl ((fills_cons 0 1 (m := [.n 6 g1x]) (z' := [.n 6 g1x, .n 6 0, .b false]) rfl (nv_cells 6 [g1x]) rfl rfl rfl rfl).trans ((fills_cons 1 1 (m := [.n 6 g1y]) (z' := [.n 6 g1x, .n 6 g1y, .b false]) rfl (nv_cells 6 [g1y]) rfl rfl rfl rfl).trans rfl))) rfl) (by kernel_rfl) rfl) ?_
    refine GSteps.cons (late_store rfl (fun _ => rfl) (fun γ w h => ex_stores 0 3 (l := [.n 6 0, .n 6 0, .b false]) (m := [.n 6 g1x, .n 6 g1y, .b false]) flG1.2 rfl rfl rfl rfl (A2.keep h.out) rfl rfl) rfl) ?_
    exact GSteps.nil
  intro _ w4 w4_ hb4 _ _ hs4
  refine th_r ?_
  have A5 := A2.keep hb4.out
  have HB6 := below_then HB3 hb4.out
  have A7 := hs4.here 0 3 (l' := [.n 6 g1x, .n 6 g1y, .b false]) A5 rfl rfl rfl
  have HB8 := hs4.below HB6 (Nat.le_trans (Nat.le_refl _) le2)
  exact wp_ret (bodyPost_ret (ret1 Try.results13 (res_sv rfl A7 flG1 rfl)) rfl ⟨rfl, HB8⟩)

set_option maxRecDepth 20000 in
set_option maxHeartbeats 4000000 in
theorem r8Some_v (w : World) :
    Calls Try.prog 30 #[.int .i64 0] w (Is (sv [.n 6 g1x, .n 6 g1y, .b false]) w) := by
  go_enter Try.func30, Try.ntmps30
  refine wp_seq (region_m (F := fun γ => ⟨List.toArray ((.int .i64 0) :: undef :: (.pointer (some ⟨γ 0, 0, none⟩)) :: undef :: undef :: undef :: undef :: undef :: undef :: undef :: undef :: undef :: undef :: undef :: undef :: undef :: undef :: undef :: undef :: undef :: undef :: undef :: undef :: undef :: undef :: undef :: undef :: undef :: undef :: undef :: undef :: undef :: undef :: undef :: undef :: undef :: undef :: undef :: undef :: undef :: undef :: undef :: undef :: undef :: undef :: []), []⟩) 1 (fun _ => 26) (fun _ => 0) (fun _ => 0) (fun _ => segs [.n 6 0, .n 6 0, .b false]) (fun _ => segs [.n 6 0, .n 6 0, .b false]) [2] (.inr ⟨rfl, by kernel_rfl⟩) (by kernel_rfl) rfl rfl rfl ?_ ?_)
  · refine GSteps.cons (gm_box 0 rfl (fun _ => rfl) (fun _ _ => rfl) (fun γ w h => ex_allocs (l := [.n 6 0, .n 6 0, .b false]) zG1) rfl rfl rfl) ?_
    exact GSteps.nil
  intro γ1 w1 hb1 hB1 _
  refine th_r ?_
  have A2 : SB 26 w1 (γ1 0) [.n 6 0, .n 6 0, .b false] := (hB1 0 (by decide)).2
  have le2 := (hB1 0 (by decide)).1
  have HB3 := below_then (Below.refl w.heap.size w) hb1.out
  refine wp_seq ?_
  refine wp_seq (region_m (F := fun _ => ⟨List.toArray ((.int .i64 0) :: undef :: (.pointer (some ⟨(γ1 0), 0, none⟩)) :: (.int .i64 0) :: undef :: undef :: undef :: undef :: undef :: undef :: undef :: undef :: undef :: undef :: undef :: undef :: undef :: undef :: undef :: undef :: undef :: undef :: undef :: undef :: undef :: undef :: undef :: undef :: undef :: undef :: undef :: undef :: undef :: undef :: undef :: undef :: undef :: undef :: undef :: undef :: undef :: undef :: undef :: undef :: undef :: []), []⟩) 0 (fun _ => 0) (fun _ => 0) (fun _ => 0) (fun _ => []) (fun _ => []) [3] (.inr ⟨rfl, by kernel_rfl⟩) (by kernel_rfl) rfl rfl rfl ?_ ?_)
  · refine GSteps.cons (gm_val (v := .int .i64 0) rfl (fun _ => rfl) (fun _ => rfl) (fun γ w h => ex_move _) rfl) ?_
    exact GSteps.nil
  intro _ w4 hb4 _ _
  refine th_r ?_
  have A5 := A2.keep hb4.out
  have HB6 := below_then HB3 hb4.out
  refine wp_block ?_
  refine wp_seq (region_m (F := fun _ => ⟨List.toArray ((.int .i64 0) :: undef :: (.pointer (some ⟨(γ1 0), 0, none⟩)) :: (.int .i64 0) :: (.bool true) :: (.bool true) :: undef :: undef :: undef :: undef :: undef :: undef :: undef :: undef :: undef :: undef :: undef :: undef :: undef :: undef :: undef :: undef :: undef :: undef :: undef :: undef :: undef :: undef :: undef :: undef :: undef :: undef :: undef :: undef :: undef :: undef :: undef :: undef :: undef :: undef :: undef :: undef :: undef :: undef :: undef :: []), []⟩) 0 (fun _ => 0) (fun _ => 0) (fun _ => 0) (fun _ => []) (fun _ => []) [5, 4] (.inr ⟨rfl, by kernel_rfl⟩) (by kernel_rfl) rfl rfl rfl ?_ ?_)
  · refine GSteps.cons (gm_val (v := .bool true) rfl (fun _ => rfl) (fun _ => rfl) (fun γ w h => ex_eqi rfl rfl _ rfl) rfl) ?_
    refine GSteps.cons (gm_val (v := .bool true) rfl (fun _ => rfl) (fun _ => rfl) (fun γ w h => ex_assign _) rfl) ?_
    exact GSteps.nil
  intro _ w7 hb7 _ _
  refine th_r ?_
  have A8 := A5.keep hb7.out
  have HB9 := below_then HB6 hb7.out
  refine wp_cond_true rfl ?_
  refine wp_seq (region_ms (F := fun _ => ⟨List.toArray ((.int .i64 0) :: undef :: (.pointer (some ⟨(γ1 0), 0, none⟩)) :: (.int .i64 0) :: (.bool true) :: (.bool true) :: (nv 6 [g1x]) :: (nv 6 [g1y]) :: (sv [.n 6 g1x, .n 6 g1y, .b false]) :: undef :: undef :: undef :: undef :: undef :: undef :: undef :: undef :: undef :: undef :: undef :: undef :: undef :: undef :: undef :: undef :: undef :: undef :: undef :: undef :: undef :: undef :: undef :: undef :: undef :: undef :: undef :: undef :: undef :: undef :: undef :: undef :: undef :: undef :: undef :: undef :: []), []⟩) 3 ((γ1 0)) 0 (segs [.n 6 g1x, .n 6 g1y, .b false]) 0 (fun _ => 0) (fun _ => 0) (fun _ => 0) (fun _ => []) (fun _ => []) [6, 7, 8] (.inr ⟨rfl, by kernel_rfl⟩) (by kernel_rfl) rfl rfl rfl ?_ ?_)
  · refine GSteps.cons (late_step (gm_val (v := nv 6 [g1x]) rfl (fun _ => rfl) (fun _ => rfl) (fun γ w h => ex_six lit_g1x (fun _ => rfl)) rfl) (by kernel_rfl) rfl) ?_
    refine GSteps.cons (late_step (gm_val (v := nv 6 [g1y]) rfl (fun _ => rfl) (fun _ => rfl) (fun γ w h => ex_six lit_g1y (fun _ => rfl)) rfl) (by kernel_rfl) rfl) ?_
    refine GSteps.cons (late_step (gm_val (v := sv [.n 6 g1x, .n 6 g1y, .b false]) rfl (fun _ => rfl) (fun _ => rfl) (fun γ w h => ex_builds stG1 (l := [.n 6 g1x, .n 6 g1y, .b false]) (vs := [(0, nv 6 [g1x]), (1, nv 6 [g1y])]) rfl ((fills_cons 0 1 (m := [.n 6 g1x]) (z' := [.n 6 g1x, .n 6 0, .b false]) rfl (nv_cells 6 [g1x]) rfl rfl rfl rfl).trans ((fills_cons 1 1 (m := [.n 6 g1y]) (z' := [.n 6 g1x, .n 6 g1y, .b false]) rfl (nv_cells 6 [g1y]) rfl rfl rfl rfl).trans rfl))) rfl) (by kernel_rfl) rfl) ?_
    refine GSteps.cons (late_store rfl (fun _ => rfl) (fun γ w h => ex_stores 0 3 (l := [.n 6 0, .n 6 0, .b false]) (m := [.n 6 g1x, .n 6 g1y, .b false]) flG1.2 rfl rfl rfl rfl (A8.keep h.out) rfl rfl) rfl) ?_
    exact GSteps.nil
  intro _ w10 w10_ hb10 _ _ hs10
  refine th_r ?_
  have A11 := A8.keep hb10.out
  have HB12 := below_then HB9 hb10.out
  have A13 := hs10.here 0 3 (l' := [.n 6 g1x, .n 6 g1y, .b false]) A11 rfl rfl rfl
  have HB14 := hs10.below HB12 (Nat.le_trans (Nat.le_refl _) le2)
  exact wp_ret (bk_r (th_ret (bodyPost_ret (ret1 Try.results30 (res_sv rfl A13 flG1 rfl)) rfl ⟨rfl, HB14⟩)))

/-- The point at infinity. -/
def Z1 : E1 := EP.zero
set_option maxRecDepth 20000 in
set_option maxHeartbeats 4000000 in
theorem r8three_e' (x v : Zp) (hv : v = 3 * x) (w : World) :
    Calls Try.prog 39 #[nv 6 [x.val]] w (Is (nv 6 [v.val]) w) := by
  obtain ⟨z1, ez1⟩ : ∃ q_ : Zp, q_ = x + x := ⟨_, rfl⟩
  obtain ⟨z2, ez2⟩ : ∃ q_ : Zp, q_ = x + z1 := ⟨_, rfl⟩
  obtain rfl : z2 = v := by subst ez2 ez1; rw [hv]; first | done | (clear hv; grind)
  go_enter Try.func39, Try.ntmps39
  refine wp_seq (region_m (F := fun γ => ⟨#[nv 6 [x.val], .pointer (some ⟨γ 0, 0, none⟩), .pointer (some ⟨γ 1, 0, none⟩), undef, undef, undef, undef, undef], []⟩) 2 (fun j_ => match j_ with | 0 => 24 | _ => 24) (fun j_ => match j_ with | 0 => 0 | _ => 1) (fun j_ => match j_ with | 0 => 0 | _ => 1) (fun j_ => match j_ with | 0 => segs [.n 6 x.val] | _ => segs [.n 6 0]) (fun j_ => match j_ with | 0 => segs [.n 6 x.val] | _ => segs [.n 6 0]) [1, 2] (.inr ⟨rfl, by kernel_rfl⟩) (by kernel_rfl) rfl rfl rfl ?_ ?_)
  · refine GSteps.cons (gm_box 0 rfl (fun _ => rfl) (fun _ _ => rfl) (fun γ w h => ex_boxsn (K := 6) (l := [x.val]) rfl) rfl rfl rfl) ?_
    refine GSteps.cons (gm_box 1 rfl (fun _ => rfl) (fun _ _ => rfl) (fun γ w h => ex_allocsn (K := 6) (l := [0]) zFp) rfl rfl rfl) ?_
    exact GSteps.nil
  intro γ1 w1 hb1 hB1 hn1
  refine th_r ?_
  have A2 : SB 24 w1 (γ1 0) [.n 6 x.val] := (hB1 0 (by decide)).2
  have le2 := (hB1 0 (by decide)).1
  have A3 : SB 24 w1 (γ1 1) [.n 6 0] := (hB1 1 (by decide)).2
  have le3 := (hB1 1 (by decide)).1
  have HB4 := below_then (Below.refl w.heap.size w) hb1.out
  refine wp_seq (region_ms (F := fun _ => ⟨#[nv 6 [x.val], .pointer (some ⟨(γ1 0), 0, none⟩), .pointer (some ⟨(γ1 1), 0, none⟩), nv 6 [x.val], nv 6 [x.val], nv 6 [x.val], nv 6 [z1.val], nv 6 [z2.val]], []⟩) 5 ((γ1 1)) 0 (segs [.n 6 z2.val]) 0 (fun _ => 0) (fun _ => 0) (fun _ => 0) (fun _ => []) (fun _ => []) [3, 4, 5, 6, 7] (.inl ⟨rfl, by kernel_rfl⟩) (by kernel_rfl) rfl rfl rfl ?_ ?_)
  · refine GSteps.cons (late_step (gm_val (v := nv 6 [x.val]) rfl (fun _ => rfl) (fun _ => rfl) (fun γ w h => ex_loadsn (K := 6) 0 1 (m := [x.val]) flFp rfl rfl (A2.keep h.out) rfl rfl) rfl) (by kernel_rfl) rfl) ?_
    refine GSteps.cons (late_step (gm_val (v := nv 6 [x.val]) rfl (fun _ => rfl) (fun _ => rfl) (fun γ w h => ex_loadsn (K := 6) 0 1 (m := [x.val]) flFp rfl rfl (A2.keep h.out) rfl rfl) rfl) (by kernel_rfl) rfl) ?_
    refine GSteps.cons (late_step (gm_val (v := nv 6 [x.val]) rfl (fun _ => rfl) (fun _ => rfl) (fun γ w h => ex_loadsn (K := 6) 0 1 (m := [x.val]) flFp rfl rfl (A2.keep h.out) rfl rfl) rfl) (by kernel_rfl) rfl) ?_
    refine GSteps.cons (late_step (gm_call (v := nv 6 [z1.val]) rfl (fun _ => rfl) (fun _ => rfl) (fun γ w => ex_call (vs := [nv 6 [x.val], nv 6 [x.val]]) rfl Try.call29 rfl) (fun w h => r4Add_e x x z1 rfl rfl ez1 _) rfl) (by kernel_rfl) rfl) ?_
    refine GSteps.cons (late_step (gm_call (v := nv 6 [z2.val]) rfl (fun _ => rfl) (fun _ => rfl) (fun γ w => ex_call (vs := [nv 6 [x.val], nv 6 [z1.val]]) rfl Try.call29 rfl) (fun w h => r4Add_e x z1 z2 rfl rfl ez2 _) rfl) (by kernel_rfl) rfl) ?_
    refine GSteps.cons (late_store rfl (fun _ => rfl) (fun γ w h => ex_stores 0 1 (l := [.n 6 0]) (m := [.n 6 z2.val]) flFp.2 rfl rfl rfl (nv_cells 6 [z2.val]) (A3.keep h.out) rfl rfl) rfl) ?_
    exact GSteps.nil
  intro _ w5 w5_ hb5 _ _ hs5
  refine th_r ?_
  have A6 := A2.keep hb5.out
  have A7 := A3.keep hb5.out
  have HB8 := below_then HB4 hb5.out
  have A9 := hs5.other (hn1 0 1 (by decide) (by decide) (by decide)) A6
  have A10 := hs5.here 0 1 (l' := [.n 6 z2.val]) A7 rfl rfl rfl
  have HB11 := hs5.below HB8 (Nat.le_trans (Nat.le_refl _) le3)
  exact wp_ret (bodyPost_ret (ret1 Try.results39 (res_nv (K := 6) (l := [z2.val]) rfl A10 flFp rfl)) rfl ⟨rfl, HB11⟩)

theorem r8three_e {l0 : List Nat} (x v : Zp) (hl0 : l0 = [x.val]) (hv : v = 3 * x) (w : World) :
    Calls Try.prog 39 #[nv 6 l0] w (Is (nv 6 [v.val]) w) := by
  subst hl0
  exact r8three_e' x v hv w

set_option maxRecDepth 20000 in
set_option maxHeartbeats 4000000 in
theorem r8chord_v (x1 y1 x2 y2 x3 y3 dx dy : Zp) (h1 : (x3 + (x1 + x2)) * (dx * dx) = dy * dy) (h2 : (y3 + y1) * dx = dy * (x1 - x3)) (w : World) :
    Calls Try.prog 38 #[sv [.n 6 x1.val, .n 6 y1.val, .b false], sv [.n 6 x2.val, .n 6 y2.val, .b false], sv [.n 6 x3.val, .n 6 y3.val, .b false], nv 6 [dx.val], nv 6 [dy.val]] w (Is (.bool true) w) := by
  obtain ⟨z1, ez1⟩ : ∃ q_ : Zp, q_ = x1 + x2 := ⟨_, rfl⟩
  obtain ⟨z2, ez2⟩ : ∃ q_ : Zp, q_ = x3 + z1 := ⟨_, rfl⟩
  obtain ⟨z3, ez3⟩ : ∃ q_ : Zp, q_ = dx * dx := ⟨_, rfl⟩
  obtain ⟨z4, ez4⟩ : ∃ q_ : Zp, q_ = z2 * z3 := ⟨_, rfl⟩
  obtain ⟨z5, ez5⟩ : ∃ q_ : Zp, q_ = dy * dy := ⟨_, rfl⟩
  obtain ⟨z6, ez6⟩ : ∃ q_ : Zp, q_ = y3 + y1 := ⟨_, rfl⟩
  obtain ⟨z7, ez7⟩ : ∃ q_ : Zp, q_ = z6 * dx := ⟨_, rfl⟩
  obtain ⟨z8, ez8⟩ : ∃ q_ : Zp, q_ = x1 - x3 := ⟨_, rfl⟩
  obtain ⟨z9, ez9⟩ : ∃ q_ : Zp, q_ = dy * z8 := ⟨_, rfl⟩
  go_enter Try.func38, Try.ntmps38
  refine wp_seq (region_m (F := fun γ => ⟨List.toArray ((sv [.n 6 x1.val, .n 6 y1.val, .b false]) :: (sv [.n 6 x2.val, .n 6 y2.val, .b false]) :: (sv [.n 6 x3.val, .n 6 y3.val, .b false]) :: (nv 6 [dx.val]) :: (nv 6 [dy.val]) :: (.pointer (some ⟨γ 0, 0, none⟩)) :: (.pointer (some ⟨γ 1, 0, none⟩)) :: (.pointer (some ⟨γ 2, 0, none⟩)) :: (.pointer (some ⟨γ 3, 0, none⟩)) :: (.pointer (some ⟨γ 4, 0, none⟩)) :: (.bool false) :: undef :: undef :: undef :: undef :: undef :: undef :: undef :: undef :: undef :: undef :: undef :: undef :: undef :: undef :: undef :: undef :: undef :: undef :: undef :: undef :: undef :: undef :: undef :: undef :: undef :: undef :: undef :: undef :: undef :: undef :: undef :: undef :: undef :: undef :: undef :: []), []⟩) 5 (fun j_ => match j_ with | 0 => 26 | 1 => 26 | 2 => 26 | 3 => 24 | _ => 24) (fun j_ => match j_ with | 0 => 0 | 1 => 1 | 2 => 2 | 3 => 3 | _ => 4) (fun j_ => match j_ with | 0 => 0 | 1 => 1 | 2 => 2 | 3 => 3 | _ => 4) (fun j_ => match j_ with | 0 => segs [.n 6 x1.val, .n 6 y1.val, .b false] | 1 => segs [.n 6 x2.val, .n 6 y2.val, .b false] | 2 => segs [.n 6 x3.val, .n 6 y3.val, .b false] | 3 => segs [.n 6 dx.val] | _ => segs [.n 6 dy.val]) (fun j_ => match j_ with | 0 => segs [.n 6 x1.val, .n 6 y1.val, .b false] | 1 => segs [.n 6 x2.val, .n 6 y2.val, .b false] | 2 => segs [.n 6 x3.val, .n 6 y3.val, .b false] | 3 => segs [.n 6 dx.val] | _ => segs [.n 6 dy.val]) [5, 6, 7, 8, 9, 10] (.inr ⟨rfl, by kernel_rfl⟩) (by kernel_rfl) rfl rfl rfl ?_ ?_)
  · refine GSteps.cons (gm_box 0 rfl (fun _ => rfl) (fun _ _ => rfl) (fun γ w h => ex_boxs (l := [.n 6 x1.val, .n 6 y1.val, .b false]) rfl) rfl rfl rfl) ?_
    refine GSteps.cons (gm_box 1 rfl (fun _ => rfl) (fun _ _ => rfl) (fun γ w h => ex_boxs (l := [.n 6 x2.val, .n 6 y2.val, .b false]) rfl) rfl rfl rfl) ?_
    refine GSteps.cons (gm_box 2 rfl (fun _ => rfl) (fun _ _ => rfl) (fun γ w h => ex_boxs (l := [.n 6 x3.val, .n 6 y3.val, .b false]) rfl) rfl rfl rfl) ?_
    refine GSteps.cons (gm_box 3 rfl (fun _ => rfl) (fun _ _ => rfl) (fun γ w h => ex_boxsn (K := 6) (l := [dx.val]) rfl) rfl rfl rfl) ?_
    refine GSteps.cons (gm_box 4 rfl (fun _ => rfl) (fun _ _ => rfl) (fun γ w h => ex_boxsn (K := 6) (l := [dy.val]) rfl) rfl rfl rfl) ?_
    refine GSteps.cons (gm_val (v := .bool false) rfl (fun _ => rfl) (fun _ => rfl) (fun γ w h => ex_assign _) rfl) ?_
    exact GSteps.nil
  intro γ1 w1 hb1 hB1 hn1
  refine th_r ?_
  have A2 : SB 26 w1 (γ1 0) [.n 6 x1.val, .n 6 y1.val, .b false] := (hB1 0 (by decide)).2
  have le2 := (hB1 0 (by decide)).1
  have A3 : SB 26 w1 (γ1 1) [.n 6 x2.val, .n 6 y2.val, .b false] := (hB1 1 (by decide)).2
  have le3 := (hB1 1 (by decide)).1
  have A4 : SB 26 w1 (γ1 2) [.n 6 x3.val, .n 6 y3.val, .b false] := (hB1 2 (by decide)).2
  have le4 := (hB1 2 (by decide)).1
  have A5 : SB 24 w1 (γ1 3) [.n 6 dx.val] := (hB1 3 (by decide)).2
  have le5 := (hB1 3 (by decide)).1
  have A6 : SB 24 w1 (γ1 4) [.n 6 dy.val] := (hB1 4 (by decide)).2
  have le6 := (hB1 4 (by decide)).1
  have HB7 := below_then (Below.refl w.heap.size w) hb1.out
  refine wp_seq (region_m (F := fun γ => ⟨List.toArray ((sv [.n 6 x1.val, .n 6 y1.val, .b false]) :: (sv [.n 6 x2.val, .n 6 y2.val, .b false]) :: (sv [.n 6 x3.val, .n 6 y3.val, .b false]) :: (nv 6 [dx.val]) :: (nv 6 [dy.val]) :: (.pointer (some ⟨(γ1 0), 0, none⟩)) :: (.pointer (some ⟨(γ1 1), 0, none⟩)) :: (.pointer (some ⟨(γ1 2), 0, none⟩)) :: (.pointer (some ⟨(γ1 3), 0, none⟩)) :: (.pointer (some ⟨(γ1 4), 0, none⟩)) :: (.bool false) :: (.pointer (some ⟨γ 0, 0, none⟩)) :: undef :: (.pointer (some ⟨(γ1 2), 0, none⟩)) :: (nv 6 [x3.val]) :: (.pointer (some ⟨(γ1 0), 0, none⟩)) :: (nv 6 [x1.val]) :: (.pointer (some ⟨(γ1 1), 0, none⟩)) :: (nv 6 [x2.val]) :: (nv 6 [z1.val]) :: (nv 6 [z2.val]) :: undef :: undef :: undef :: undef :: undef :: undef :: undef :: undef :: undef :: undef :: undef :: undef :: undef :: undef :: undef :: undef :: undef :: undef :: undef :: undef :: undef :: undef :: undef :: undef :: undef :: []), []⟩) 1 (fun _ => 24) (fun _ => 8) (fun _ => 9) (fun _ => segs [.n 6 0]) (fun _ => segs [.n 6 z2.val]) [13, 14, 15, 16, 17, 18, 19, 20, 11] (.inl ⟨rfl, by kernel_rfl⟩) (by kernel_rfl) rfl rfl rfl ?_ ?_)
  · refine GSteps.cons (gm_valg (fun γ => .pointer (some ⟨(γ1 2), 0, none⟩)) rfl (fun _ => rfl) (fun _ => rfl) (fun γ w h => ex_field faG1_0 rfl) rfl) ?_
    refine GSteps.cons (gm_val (v := nv 6 [x3.val]) rfl (fun _ => rfl) (fun _ => rfl) (fun γ w h => ex_loadsn (K := 6) 0 1 (m := [x3.val]) flFp rfl rfl (A4.keep h.out) rfl rfl) rfl) ?_
    refine GSteps.cons (gm_valg (fun γ => .pointer (some ⟨(γ1 0), 0, none⟩)) rfl (fun _ => rfl) (fun _ => rfl) (fun γ w h => ex_field faG1_0 rfl) rfl) ?_
    refine GSteps.cons (gm_val (v := nv 6 [x1.val]) rfl (fun _ => rfl) (fun _ => rfl) (fun γ w h => ex_loadsn (K := 6) 0 1 (m := [x1.val]) flFp rfl rfl (A2.keep h.out) rfl rfl) rfl) ?_
    refine GSteps.cons (gm_valg (fun γ => .pointer (some ⟨(γ1 1), 0, none⟩)) rfl (fun _ => rfl) (fun _ => rfl) (fun γ w h => ex_field faG1_0 rfl) rfl) ?_
    refine GSteps.cons (gm_val (v := nv 6 [x2.val]) rfl (fun _ => rfl) (fun _ => rfl) (fun γ w h => ex_loadsn (K := 6) 0 1 (m := [x2.val]) flFp rfl rfl (A3.keep h.out) rfl rfl) rfl) ?_
    refine GSteps.cons (gm_call (v := nv 6 [z1.val]) rfl (fun _ => rfl) (fun _ => rfl) (fun γ w => ex_call (vs := [nv 6 [x1.val], nv 6 [x2.val]]) rfl Try.call29 rfl) (fun w h => r4Add_e x1 x2 z1 rfl rfl ez1 _) rfl) ?_
    refine GSteps.cons (gm_call (v := nv 6 [z2.val]) rfl (fun _ => rfl) (fun _ => rfl) (fun γ w => ex_call (vs := [nv 6 [x3.val], nv 6 [z1.val]]) rfl Try.call29 rfl) (fun w h => r4Add_e x3 z1 z2 rfl rfl ez2 _) rfl) ?_
    refine GSteps.cons (gm_new 0 rfl (fun _ => rfl) (fun _ _ => rfl) (fun γ w => ex_allocsn (K := 6) (l := [0]) zFp) rfl (by kernel_rfl)) ?_
    refine GSteps.cons (gm_store 0 rfl rfl (fun _ => rfl) (len_segs (l := [.n 6 z2.val]) (l' := [.n 6 0]) rfl) (fun γ w h => ex_stores 0 1 (l := [.n 6 0]) (m := [.n 6 z2.val]) flFp.2 rfl rfl rfl (nv_cells 6 [z2.val]) h rfl rfl) rfl rfl (by kernel_rfl)) ?_
    exact GSteps.nil
  intro γ8 w8 hb8 hB8 _
  refine th_r ?_
  have A9 := A2.keep hb8.out
  have A10 := A3.keep hb8.out
  have A11 := A4.keep hb8.out
  have A12 := A5.keep hb8.out
  have A13 := A6.keep hb8.out
  have A14 : SB 24 w8 (γ8 0) [.n 6 z2.val] := (hB8 0 (by decide)).2
  have le14 := (hB8 0 (by decide)).1
  have HB15 := below_then HB7 hb8.out
  refine wp_seq ?_
  refine wp_seq (region_m (F := fun _ => ⟨List.toArray ((sv [.n 6 x1.val, .n 6 y1.val, .b false]) :: (sv [.n 6 x2.val, .n 6 y2.val, .b false]) :: (sv [.n 6 x3.val, .n 6 y3.val, .b false]) :: (nv 6 [dx.val]) :: (nv 6 [dy.val]) :: (.pointer (some ⟨(γ1 0), 0, none⟩)) :: (.pointer (some ⟨(γ1 1), 0, none⟩)) :: (.pointer (some ⟨(γ1 2), 0, none⟩)) :: (.pointer (some ⟨(γ1 3), 0, none⟩)) :: (.pointer (some ⟨(γ1 4), 0, none⟩)) :: (.bool false) :: (.pointer (some ⟨(γ8 0), 0, none⟩)) :: undef :: (.pointer (some ⟨(γ1 2), 0, none⟩)) :: (nv 6 [x3.val]) :: (.pointer (some ⟨(γ1 0), 0, none⟩)) :: (nv 6 [x1.val]) :: (.pointer (some ⟨(γ1 1), 0, none⟩)) :: (nv 6 [x2.val]) :: (nv 6 [z1.val]) :: (nv 6 [z2.val]) :: (nv 6 [z2.val]) :: (nv 6 [dx.val]) :: (nv 6 [dx.val]) :: (nv 6 [z3.val]) :: (nv 6 [z4.val]) :: (nv 6 [dy.val]) :: (nv 6 [dy.val]) :: (nv 6 [z5.val]) :: (.bool false) :: undef :: undef :: undef :: undef :: undef :: undef :: undef :: undef :: undef :: undef :: undef :: undef :: undef :: undef :: undef :: undef :: []), []⟩) 0 (fun _ => 0) (fun _ => 0) (fun _ => 0) (fun _ => []) (fun _ => []) [21, 22, 23, 24, 25, 26, 27, 28, 29] (.inl ⟨rfl, by kernel_rfl⟩) (by kernel_rfl) rfl rfl rfl ?_ ?_)
  · refine GSteps.cons (gm_val (v := nv 6 [z2.val]) rfl (fun _ => rfl) (fun _ => rfl) (fun γ w h => ex_loadsn (K := 6) 0 1 (m := [z2.val]) flFp rfl rfl (A14.keep h.out) rfl rfl) rfl) ?_
    refine GSteps.cons (gm_val (v := nv 6 [dx.val]) rfl (fun _ => rfl) (fun _ => rfl) (fun γ w h => ex_loadsn (K := 6) 0 1 (m := [dx.val]) flFp rfl rfl (A12.keep h.out) rfl rfl) rfl) ?_
    refine GSteps.cons (gm_val (v := nv 6 [dx.val]) rfl (fun _ => rfl) (fun _ => rfl) (fun γ w h => ex_loadsn (K := 6) 0 1 (m := [dx.val]) flFp rfl rfl (A12.keep h.out) rfl rfl) rfl) ?_
    refine GSteps.cons (gm_call (v := nv 6 [z3.val]) rfl (fun _ => rfl) (fun _ => rfl) (fun γ w => ex_call (vs := [nv 6 [dx.val], nv 6 [dx.val]]) rfl Try.call28 rfl) (fun w h => r4Mul_e dx dx z3 rfl rfl ez3 _) rfl) ?_
    refine GSteps.cons (gm_call (v := nv 6 [z4.val]) rfl (fun _ => rfl) (fun _ => rfl) (fun γ w => ex_call (vs := [nv 6 [z2.val], nv 6 [z3.val]]) rfl Try.call28 rfl) (fun w h => r4Mul_e z2 z3 z4 rfl rfl ez4 _) rfl) ?_
    refine GSteps.cons (gm_val (v := nv 6 [dy.val]) rfl (fun _ => rfl) (fun _ => rfl) (fun γ w h => ex_loadsn (K := 6) 0 1 (m := [dy.val]) flFp rfl rfl (A13.keep h.out) rfl rfl) rfl) ?_
    refine GSteps.cons (gm_val (v := nv 6 [dy.val]) rfl (fun _ => rfl) (fun _ => rfl) (fun γ w h => ex_loadsn (K := 6) 0 1 (m := [dy.val]) flFp rfl rfl (A13.keep h.out) rfl rfl) rfl) ?_
    refine GSteps.cons (gm_call (v := nv 6 [z5.val]) rfl (fun _ => rfl) (fun _ => rfl) (fun γ w => ex_call (vs := [nv 6 [dy.val], nv 6 [dy.val]]) rfl Try.call28 rfl) (fun w h => r4Mul_e dy dy z5 rfl rfl ez5 _) rfl) ?_
    refine GSteps.cons (gm_val (v := .bool false) rfl (fun _ => rfl) (fun _ => rfl) (fun γ w h => ex_neqz z4 z5 rfl rfl rfl rfl true ⟨fun _ => (by subst ez5 ez4 ez3 ez2 ez1; exact h1), fun _ => rfl⟩) rfl) ?_
    exact GSteps.nil
  intro _ w16 hb16 _ _
  refine th_r ?_
  have A17 := A9.keep hb16.out
  have A18 := A10.keep hb16.out
  have A19 := A11.keep hb16.out
  have A20 := A12.keep hb16.out
  have A21 := A13.keep hb16.out
  have A22 := A14.keep hb16.out
  have HB23 := below_then HB15 hb16.out
  refine wp_cond_false rfl ?_
  refine wp_skip ?_
  refine th_r ?_
  refine wp_seq (region_m (F := fun γ => ⟨List.toArray ((sv [.n 6 x1.val, .n 6 y1.val, .b false]) :: (sv [.n 6 x2.val, .n 6 y2.val, .b false]) :: (sv [.n 6 x3.val, .n 6 y3.val, .b false]) :: (nv 6 [dx.val]) :: (nv 6 [dy.val]) :: (.pointer (some ⟨(γ1 0), 0, none⟩)) :: (.pointer (some ⟨(γ1 1), 0, none⟩)) :: (.pointer (some ⟨(γ1 2), 0, none⟩)) :: (.pointer (some ⟨(γ1 3), 0, none⟩)) :: (.pointer (some ⟨(γ1 4), 0, none⟩)) :: (.bool false) :: (.pointer (some ⟨(γ8 0), 0, none⟩)) :: (.pointer (some ⟨γ 0, 0, none⟩)) :: (.pointer (some ⟨(γ1 2), 0, none⟩)) :: (nv 6 [x3.val]) :: (.pointer (some ⟨(γ1 0), 0, none⟩)) :: (nv 6 [x1.val]) :: (.pointer (some ⟨(γ1 1), 0, none⟩)) :: (nv 6 [x2.val]) :: (nv 6 [z1.val]) :: (nv 6 [z2.val]) :: (nv 6 [z2.val]) :: (nv 6 [dx.val]) :: (nv 6 [dx.val]) :: (nv 6 [z3.val]) :: (nv 6 [z4.val]) :: (nv 6 [dy.val]) :: (nv 6 [dy.val]) :: (nv 6 [z5.val]) :: (.bool false) :: (.pointer (some ⟨(γ1 2), 6, none⟩)) :: (nv 6 [y3.val]) :: (.pointer (some ⟨(γ1 0), 6, none⟩)) :: (nv 6 [y1.val]) :: (nv 6 [z6.val]) :: (nv 6 [dx.val]) :: (nv 6 [z7.val]) :: undef :: undef :: undef :: undef :: undef :: undef :: undef :: undef :: undef :: []), []⟩) 1 (fun _ => 24) (fun _ => 7) (fun _ => 8) (fun _ => segs [.n 6 0]) (fun _ => segs [.n 6 z7.val]) [30, 31, 32, 33, 34, 35, 36, 12] (.inl ⟨rfl, by kernel_rfl⟩) (by kernel_rfl) rfl rfl rfl ?_ ?_)
  · refine GSteps.cons (gm_valg (fun γ => .pointer (some ⟨(γ1 2), 6, none⟩)) rfl (fun _ => rfl) (fun _ => rfl) (fun γ w h => ex_field faG1_1 rfl) rfl) ?_
    refine GSteps.cons (gm_val (v := nv 6 [y3.val]) rfl (fun _ => rfl) (fun _ => rfl) (fun γ w h => ex_loadsn (K := 6) 1 1 (m := [y3.val]) flFp rfl rfl (A19.keep h.out) rfl rfl) rfl) ?_
    refine GSteps.cons (gm_valg (fun γ => .pointer (some ⟨(γ1 0), 6, none⟩)) rfl (fun _ => rfl) (fun _ => rfl) (fun γ w h => ex_field faG1_1 rfl) rfl) ?_
    refine GSteps.cons (gm_val (v := nv 6 [y1.val]) rfl (fun _ => rfl) (fun _ => rfl) (fun γ w h => ex_loadsn (K := 6) 1 1 (m := [y1.val]) flFp rfl rfl (A17.keep h.out) rfl rfl) rfl) ?_
    refine GSteps.cons (gm_call (v := nv 6 [z6.val]) rfl (fun _ => rfl) (fun _ => rfl) (fun γ w => ex_call (vs := [nv 6 [y3.val], nv 6 [y1.val]]) rfl Try.call29 rfl) (fun w h => r4Add_e y3 y1 z6 rfl rfl ez6 _) rfl) ?_
    refine GSteps.cons (gm_val (v := nv 6 [dx.val]) rfl (fun _ => rfl) (fun _ => rfl) (fun γ w h => ex_loadsn (K := 6) 0 1 (m := [dx.val]) flFp rfl rfl (A20.keep h.out) rfl rfl) rfl) ?_
    refine GSteps.cons (gm_call (v := nv 6 [z7.val]) rfl (fun _ => rfl) (fun _ => rfl) (fun γ w => ex_call (vs := [nv 6 [z6.val], nv 6 [dx.val]]) rfl Try.call28 rfl) (fun w h => r4Mul_e z6 dx z7 rfl rfl ez7 _) rfl) ?_
    refine GSteps.cons (gm_new 0 rfl (fun _ => rfl) (fun _ _ => rfl) (fun γ w => ex_allocsn (K := 6) (l := [0]) zFp) rfl (by kernel_rfl)) ?_
    refine GSteps.cons (gm_store 0 rfl rfl (fun _ => rfl) (len_segs (l := [.n 6 z7.val]) (l' := [.n 6 0]) rfl) (fun γ w h => ex_stores 0 1 (l := [.n 6 0]) (m := [.n 6 z7.val]) flFp.2 rfl rfl rfl (nv_cells 6 [z7.val]) h rfl rfl) rfl rfl (by kernel_rfl)) ?_
    exact GSteps.nil
  intro γ24 w24 hb24 hB24 _
  refine th_r ?_
  have A25 := A17.keep hb24.out
  have A26 := A18.keep hb24.out
  have A27 := A19.keep hb24.out
  have A28 := A20.keep hb24.out
  have A29 := A21.keep hb24.out
  have A30 := A22.keep hb24.out
  have A31 : SB 24 w24 (γ24 0) [.n 6 z7.val] := (hB24 0 (by decide)).2
  have le31 := (hB24 0 (by decide)).1
  have HB32 := below_then HB23 hb24.out
  refine wp_seq (region_m (F := fun _ => ⟨List.toArray ((sv [.n 6 x1.val, .n 6 y1.val, .b false]) :: (sv [.n 6 x2.val, .n 6 y2.val, .b false]) :: (sv [.n 6 x3.val, .n 6 y3.val, .b false]) :: (nv 6 [dx.val]) :: (nv 6 [dy.val]) :: (.pointer (some ⟨(γ1 0), 0, none⟩)) :: (.pointer (some ⟨(γ1 1), 0, none⟩)) :: (.pointer (some ⟨(γ1 2), 0, none⟩)) :: (.pointer (some ⟨(γ1 3), 0, none⟩)) :: (.pointer (some ⟨(γ1 4), 0, none⟩)) :: (.bool true) :: (.pointer (some ⟨(γ8 0), 0, none⟩)) :: (.pointer (some ⟨(γ24 0), 0, none⟩)) :: (.pointer (some ⟨(γ1 2), 0, none⟩)) :: (nv 6 [x3.val]) :: (.pointer (some ⟨(γ1 0), 0, none⟩)) :: (nv 6 [x1.val]) :: (.pointer (some ⟨(γ1 1), 0, none⟩)) :: (nv 6 [x2.val]) :: (nv 6 [z1.val]) :: (nv 6 [z2.val]) :: (nv 6 [z2.val]) :: (nv 6 [dx.val]) :: (nv 6 [dx.val]) :: (nv 6 [z3.val]) :: (nv 6 [z4.val]) :: (nv 6 [dy.val]) :: (nv 6 [dy.val]) :: (nv 6 [z5.val]) :: (.bool false) :: (.pointer (some ⟨(γ1 2), 6, none⟩)) :: (nv 6 [y3.val]) :: (.pointer (some ⟨(γ1 0), 6, none⟩)) :: (nv 6 [y1.val]) :: (nv 6 [z6.val]) :: (nv 6 [dx.val]) :: (nv 6 [z7.val]) :: (nv 6 [z7.val]) :: (nv 6 [dy.val]) :: (.pointer (some ⟨(γ1 0), 0, none⟩)) :: (nv 6 [x1.val]) :: (.pointer (some ⟨(γ1 2), 0, none⟩)) :: (nv 6 [x3.val]) :: (nv 6 [z8.val]) :: (nv 6 [z9.val]) :: (.bool true) :: []), []⟩) 0 (fun _ => 0) (fun _ => 0) (fun _ => 0) (fun _ => []) (fun _ => []) [37, 38, 39, 40, 41, 42, 43, 44, 45, 10] (.inl ⟨rfl, by kernel_rfl⟩) (by kernel_rfl) rfl rfl rfl ?_ ?_)
  · refine GSteps.cons (gm_val (v := nv 6 [z7.val]) rfl (fun _ => rfl) (fun _ => rfl) (fun γ w h => ex_loadsn (K := 6) 0 1 (m := [z7.val]) flFp rfl rfl (A31.keep h.out) rfl rfl) rfl) ?_
    refine GSteps.cons (gm_val (v := nv 6 [dy.val]) rfl (fun _ => rfl) (fun _ => rfl) (fun γ w h => ex_loadsn (K := 6) 0 1 (m := [dy.val]) flFp rfl rfl (A29.keep h.out) rfl rfl) rfl) ?_
    refine GSteps.cons (gm_valg (fun γ => .pointer (some ⟨(γ1 0), 0, none⟩)) rfl (fun _ => rfl) (fun _ => rfl) (fun γ w h => ex_field faG1_0 rfl) rfl) ?_
    refine GSteps.cons (gm_val (v := nv 6 [x1.val]) rfl (fun _ => rfl) (fun _ => rfl) (fun γ w h => ex_loadsn (K := 6) 0 1 (m := [x1.val]) flFp rfl rfl (A25.keep h.out) rfl rfl) rfl) ?_
    refine GSteps.cons (gm_valg (fun γ => .pointer (some ⟨(γ1 2), 0, none⟩)) rfl (fun _ => rfl) (fun _ => rfl) (fun γ w h => ex_field faG1_0 rfl) rfl) ?_
    refine GSteps.cons (gm_val (v := nv 6 [x3.val]) rfl (fun _ => rfl) (fun _ => rfl) (fun γ w h => ex_loadsn (K := 6) 0 1 (m := [x3.val]) flFp rfl rfl (A27.keep h.out) rfl rfl) rfl) ?_
    refine GSteps.cons (gm_call (v := nv 6 [z8.val]) rfl (fun _ => rfl) (fun _ => rfl) (fun γ w => ex_call (vs := [nv 6 [x1.val], nv 6 [x3.val]]) rfl Try.call40 rfl) (fun w h => r4Sub_e x1 x3 z8 rfl rfl ez8 _) rfl) ?_
    refine GSteps.cons (gm_call (v := nv 6 [z9.val]) rfl (fun _ => rfl) (fun _ => rfl) (fun γ w => ex_call (vs := [nv 6 [dy.val], nv 6 [z8.val]]) rfl Try.call28 rfl) (fun w h => r4Mul_e dy z8 z9 rfl rfl ez9 _) rfl) ?_
    refine GSteps.cons (gm_val (v := .bool true) rfl (fun _ => rfl) (fun _ => rfl) (fun γ w h => ex_eqz z7 z9 rfl rfl rfl rfl true ⟨fun _ => (by subst ez9 ez8 ez7 ez6 ez5 ez4 ez3 ez2 ez1; exact h2), fun _ => rfl⟩) rfl) ?_
    refine GSteps.cons (gm_val (v := .bool true) rfl (fun _ => rfl) (fun _ => rfl) (fun γ w h => ex_assign _) rfl) ?_
    exact GSteps.nil
  intro _ w33 hb33 _ _
  refine th_r ?_
  have A34 := A25.keep hb33.out
  have A35 := A26.keep hb33.out
  have A36 := A27.keep hb33.out
  have A37 := A28.keep hb33.out
  have A38 := A29.keep hb33.out
  have A39 := A30.keep hb33.out
  have A40 := A31.keep hb33.out
  have HB41 := below_then HB32 hb33.out
  exact wp_ret (bodyPost_ret (ret1 Try.results38 (res_tmp rfl)) rfl ⟨rfl, HB41⟩)

set_option maxRecDepth 20000 in
set_option maxHeartbeats 4000000 in
theorem r8Sum_inf1 (Q : Pt Zp) (w : World) :
    Calls Try.prog 18 #[sv [.n 6 0, .n 6 0, .b true], sv [.n 6 (ax Q), .n 6 (ay Q), .b (ai Q)], sv [.n 6 (ax Q), .n 6 (ay Q), .b (ai Q)]] w (Is (.bool true) w) := by
  go_enter Try.func18, Try.ntmps18
  refine wp_seq (region_m (F := fun γ => ⟨List.toArray ((sv [.n 6 0, .n 6 0, .b true]) :: (sv [.n 6 (ax Q), .n 6 (ay Q), .b (ai Q)]) :: (sv [.n 6 (ax Q), .n 6 (ay Q), .b (ai Q)]) :: (.pointer (some ⟨γ 0, 0, none⟩)) :: (.pointer (some ⟨γ 1, 0, none⟩)) :: (.pointer (some ⟨γ 2, 0, none⟩)) :: (.bool false) :: undef :: undef :: undef :: undef :: undef :: undef :: undef :: undef :: undef :: undef :: undef :: undef :: undef :: undef :: undef :: undef :: undef :: undef :: undef :: undef :: undef :: undef :: undef :: undef :: undef :: undef :: undef :: undef :: undef :: undef :: undef :: undef :: undef :: undef :: undef :: undef :: undef :: undef :: undef :: undef :: undef :: undef :: undef :: undef :: undef :: undef :: undef :: undef :: undef :: undef :: undef :: undef :: undef :: undef :: undef :: undef :: undef :: undef :: undef :: undef :: undef :: undef :: undef :: undef :: undef :: undef :: undef :: []), []⟩) 3 (fun j_ => match j_ with | 0 => 26 | 1 => 26 | _ => 26) (fun j_ => match j_ with | 0 => 0 | 1 => 1 | _ => 2) (fun j_ => match j_ with | 0 => 0 | 1 => 1 | _ => 2) (fun j_ => match j_ with | 0 => segs [.n 6 0, .n 6 0, .b true] | 1 => segs [.n 6 (ax Q), .n 6 (ay Q), .b (ai Q)] | _ => segs [.n 6 (ax Q), .n 6 (ay Q), .b (ai Q)]) (fun j_ => match j_ with | 0 => segs [.n 6 0, .n 6 0, .b true] | 1 => segs [.n 6 (ax Q), .n 6 (ay Q), .b (ai Q)] | _ => segs [.n 6 (ax Q), .n 6 (ay Q), .b (ai Q)]) [3, 4, 5, 6] (.inr ⟨rfl, by kernel_rfl⟩) (by kernel_rfl) rfl rfl rfl ?_ ?_)
  · refine GSteps.cons (gm_box 0 rfl (fun _ => rfl) (fun _ _ => rfl) (fun γ w h => ex_boxs (l := [.n 6 0, .n 6 0, .b true]) rfl) rfl rfl rfl) ?_
    refine GSteps.cons (gm_box 1 rfl (fun _ => rfl) (fun _ _ => rfl) (fun γ w h => ex_boxs (l := [.n 6 (ax Q), .n 6 (ay Q), .b (ai Q)]) rfl) rfl rfl rfl) ?_
    refine GSteps.cons (gm_box 2 rfl (fun _ => rfl) (fun _ _ => rfl) (fun γ w h => ex_boxs (l := [.n 6 (ax Q), .n 6 (ay Q), .b (ai Q)]) rfl) rfl rfl rfl) ?_
    refine GSteps.cons (gm_val (v := .bool false) rfl (fun _ => rfl) (fun _ => rfl) (fun γ w h => ex_assign _) rfl) ?_
    exact GSteps.nil
  intro γ1 w1 hb1 hB1 hn1
  refine th_r ?_
  have A2 : SB 26 w1 (γ1 0) [.n 6 0, .n 6 0, .b true] := (hB1 0 (by decide)).2
  have le2 := (hB1 0 (by decide)).1
  have A3 : SB 26 w1 (γ1 1) [.n 6 (ax Q), .n 6 (ay Q), .b (ai Q)] := (hB1 1 (by decide)).2
  have le3 := (hB1 1 (by decide)).1
  have A4 : SB 26 w1 (γ1 2) [.n 6 (ax Q), .n 6 (ay Q), .b (ai Q)] := (hB1 2 (by decide)).2
  have le4 := (hB1 2 (by decide)).1
  have HB5 := below_then (Below.refl w.heap.size w) hb1.out
  refine wp_seq ?_
  refine wp_seq (region_m (F := fun _ => ⟨List.toArray ((sv [.n 6 0, .n 6 0, .b true]) :: (sv [.n 6 (ax Q), .n 6 (ay Q), .b (ai Q)]) :: (sv [.n 6 (ax Q), .n 6 (ay Q), .b (ai Q)]) :: (.pointer (some ⟨(γ1 0), 0, none⟩)) :: (.pointer (some ⟨(γ1 1), 0, none⟩)) :: (.pointer (some ⟨(γ1 2), 0, none⟩)) :: (.bool false) :: (.pointer (some ⟨(γ1 0), 12, none⟩)) :: (.bool true) :: undef :: undef :: undef :: undef :: undef :: undef :: undef :: undef :: undef :: undef :: undef :: undef :: undef :: undef :: undef :: undef :: undef :: undef :: undef :: undef :: undef :: undef :: undef :: undef :: undef :: undef :: undef :: undef :: undef :: undef :: undef :: undef :: undef :: undef :: undef :: undef :: undef :: undef :: undef :: undef :: undef :: undef :: undef :: undef :: undef :: undef :: undef :: undef :: undef :: undef :: undef :: undef :: undef :: undef :: undef :: undef :: undef :: undef :: undef :: undef :: undef :: undef :: undef :: undef :: undef :: []), []⟩) 0 (fun _ => 0) (fun _ => 0) (fun _ => 0) (fun _ => []) (fun _ => []) [7, 8] (.inr ⟨rfl, by kernel_rfl⟩) (by kernel_rfl) rfl rfl rfl ?_ ?_)
  · refine GSteps.cons (gm_valg (fun γ => .pointer (some ⟨(γ1 0), 12, none⟩)) rfl (fun _ => rfl) (fun _ => rfl) (fun γ w h => ex_field faG1_2 rfl) rfl) ?_
    refine GSteps.cons (gm_val (v := .bool true) rfl (fun _ => rfl) (fun _ => rfl) (fun γ w h => ex_load1 2 (s := .b true) (v := .bool true) sgBool rfl (A2.keep h.out) rfl rfl rfl) rfl) ?_
    exact GSteps.nil
  intro _ w6 hb6 _ _
  refine th_r ?_
  have A7 := A2.keep hb6.out
  have A8 := A3.keep hb6.out
  have A9 := A4.keep hb6.out
  have HB10 := below_then HB5 hb6.out
  refine wp_cond_true rfl ?_
  refine wp_seq (region_m (F := fun _ => ⟨List.toArray ((sv [.n 6 0, .n 6 0, .b true]) :: (sv [.n 6 (ax Q), .n 6 (ay Q), .b (ai Q)]) :: (sv [.n 6 (ax Q), .n 6 (ay Q), .b (ai Q)]) :: (.pointer (some ⟨(γ1 0), 0, none⟩)) :: (.pointer (some ⟨(γ1 1), 0, none⟩)) :: (.pointer (some ⟨(γ1 2), 0, none⟩)) :: (.bool true) :: (.pointer (some ⟨(γ1 0), 12, none⟩)) :: (.bool true) :: (sv [.n 6 (ax Q), .n 6 (ay Q), .b (ai Q)]) :: (sv [.n 6 (ax Q), .n 6 (ay Q), .b (ai Q)]) :: (.bool true) :: undef :: undef :: undef :: undef :: undef :: undef :: undef :: undef :: undef :: undef :: undef :: undef :: undef :: undef :: undef :: undef :: undef :: undef :: undef :: undef :: undef :: undef :: undef :: undef :: undef :: undef :: undef :: undef :: undef :: undef :: undef :: undef :: undef :: undef :: undef :: undef :: undef :: undef :: undef :: undef :: undef :: undef :: undef :: undef :: undef :: undef :: undef :: undef :: undef :: undef :: undef :: undef :: undef :: undef :: undef :: undef :: undef :: undef :: undef :: undef :: undef :: undef :: []), []⟩) 0 (fun _ => 0) (fun _ => 0) (fun _ => 0) (fun _ => []) (fun _ => []) [9, 10, 11, 6] (.inr ⟨rfl, by kernel_rfl⟩) (by kernel_rfl) rfl rfl rfl ?_ ?_)
  · refine GSteps.cons (gm_val (v := sv [.n 6 (ax Q), .n 6 (ay Q), .b (ai Q)]) rfl (fun _ => rfl) (fun _ => rfl) (fun γ w h => ex_loads 0 3 (m := [.n 6 (ax Q), .n 6 (ay Q), .b (ai Q)]) flG1 rfl rfl (A9.keep h.out) rfl rfl) rfl) ?_
    refine GSteps.cons (gm_val (v := sv [.n 6 (ax Q), .n 6 (ay Q), .b (ai Q)]) rfl (fun _ => rfl) (fun _ => rfl) (fun γ w h => ex_loads 0 3 (m := [.n 6 (ax Q), .n 6 (ay Q), .b (ai Q)]) flG1 rfl rfl (A8.keep h.out) rfl rfl) rfl) ?_
    refine GSteps.cons (gm_val (v := .bool true) rfl (fun _ => rfl) (fun _ => rfl) (fun γ w h => ex_eqs gdG1 eqG1 rfl rfl rfl (shG1_of (ax_B Q) (ay_B Q)) (shG1_of (ax_B Q) (ay_B Q)) true (by simp)) rfl) ?_
    refine GSteps.cons (gm_val (v := .bool true) rfl (fun _ => rfl) (fun _ => rfl) (fun γ w h => ex_assign _) rfl) ?_
    exact GSteps.nil
  intro _ w11 hb11 _ _
  refine th_r ?_
  have A12 := A7.keep hb11.out
  have A13 := A8.keep hb11.out
  have A14 := A9.keep hb11.out
  have HB15 := below_then HB10 hb11.out
  exact wp_ret (th_ret (bodyPost_ret (ret1 Try.results18 (res_tmp rfl)) rfl ⟨rfl, HB15⟩))

set_option maxRecDepth 20000 in
set_option maxHeartbeats 4000000 in
theorem r8Sum_inf2 (x y : Zp) (w : World) :
    Calls Try.prog 18 #[sv [.n 6 x.val, .n 6 y.val, .b false], sv [.n 6 0, .n 6 0, .b true], sv [.n 6 x.val, .n 6 y.val, .b false]] w (Is (.bool true) w) := by
  go_enter Try.func18, Try.ntmps18
  refine wp_seq (region_m (F := fun γ => ⟨List.toArray ((sv [.n 6 x.val, .n 6 y.val, .b false]) :: (sv [.n 6 0, .n 6 0, .b true]) :: (sv [.n 6 x.val, .n 6 y.val, .b false]) :: (.pointer (some ⟨γ 0, 0, none⟩)) :: (.pointer (some ⟨γ 1, 0, none⟩)) :: (.pointer (some ⟨γ 2, 0, none⟩)) :: (.bool false) :: undef :: undef :: undef :: undef :: undef :: undef :: undef :: undef :: undef :: undef :: undef :: undef :: undef :: undef :: undef :: undef :: undef :: undef :: undef :: undef :: undef :: undef :: undef :: undef :: undef :: undef :: undef :: undef :: undef :: undef :: undef :: undef :: undef :: undef :: undef :: undef :: undef :: undef :: undef :: undef :: undef :: undef :: undef :: undef :: undef :: undef :: undef :: undef :: undef :: undef :: undef :: undef :: undef :: undef :: undef :: undef :: undef :: undef :: undef :: undef :: undef :: undef :: undef :: undef :: undef :: undef :: undef :: []), []⟩) 3 (fun j_ => match j_ with | 0 => 26 | 1 => 26 | _ => 26) (fun j_ => match j_ with | 0 => 0 | 1 => 1 | _ => 2) (fun j_ => match j_ with | 0 => 0 | 1 => 1 | _ => 2) (fun j_ => match j_ with | 0 => segs [.n 6 x.val, .n 6 y.val, .b false] | 1 => segs [.n 6 0, .n 6 0, .b true] | _ => segs [.n 6 x.val, .n 6 y.val, .b false]) (fun j_ => match j_ with | 0 => segs [.n 6 x.val, .n 6 y.val, .b false] | 1 => segs [.n 6 0, .n 6 0, .b true] | _ => segs [.n 6 x.val, .n 6 y.val, .b false]) [3, 4, 5, 6] (.inr ⟨rfl, by kernel_rfl⟩) (by kernel_rfl) rfl rfl rfl ?_ ?_)
  · refine GSteps.cons (gm_box 0 rfl (fun _ => rfl) (fun _ _ => rfl) (fun γ w h => ex_boxs (l := [.n 6 x.val, .n 6 y.val, .b false]) rfl) rfl rfl rfl) ?_
    refine GSteps.cons (gm_box 1 rfl (fun _ => rfl) (fun _ _ => rfl) (fun γ w h => ex_boxs (l := [.n 6 0, .n 6 0, .b true]) rfl) rfl rfl rfl) ?_
    refine GSteps.cons (gm_box 2 rfl (fun _ => rfl) (fun _ _ => rfl) (fun γ w h => ex_boxs (l := [.n 6 x.val, .n 6 y.val, .b false]) rfl) rfl rfl rfl) ?_
    refine GSteps.cons (gm_val (v := .bool false) rfl (fun _ => rfl) (fun _ => rfl) (fun γ w h => ex_assign _) rfl) ?_
    exact GSteps.nil
  intro γ1 w1 hb1 hB1 hn1
  refine th_r ?_
  have A2 : SB 26 w1 (γ1 0) [.n 6 x.val, .n 6 y.val, .b false] := (hB1 0 (by decide)).2
  have le2 := (hB1 0 (by decide)).1
  have A3 : SB 26 w1 (γ1 1) [.n 6 0, .n 6 0, .b true] := (hB1 1 (by decide)).2
  have le3 := (hB1 1 (by decide)).1
  have A4 : SB 26 w1 (γ1 2) [.n 6 x.val, .n 6 y.val, .b false] := (hB1 2 (by decide)).2
  have le4 := (hB1 2 (by decide)).1
  have HB5 := below_then (Below.refl w.heap.size w) hb1.out
  refine wp_seq ?_
  refine wp_seq (region_m (F := fun _ => ⟨List.toArray ((sv [.n 6 x.val, .n 6 y.val, .b false]) :: (sv [.n 6 0, .n 6 0, .b true]) :: (sv [.n 6 x.val, .n 6 y.val, .b false]) :: (.pointer (some ⟨(γ1 0), 0, none⟩)) :: (.pointer (some ⟨(γ1 1), 0, none⟩)) :: (.pointer (some ⟨(γ1 2), 0, none⟩)) :: (.bool false) :: (.pointer (some ⟨(γ1 0), 12, none⟩)) :: (.bool false) :: undef :: undef :: undef :: undef :: undef :: undef :: undef :: undef :: undef :: undef :: undef :: undef :: undef :: undef :: undef :: undef :: undef :: undef :: undef :: undef :: undef :: undef :: undef :: undef :: undef :: undef :: undef :: undef :: undef :: undef :: undef :: undef :: undef :: undef :: undef :: undef :: undef :: undef :: undef :: undef :: undef :: undef :: undef :: undef :: undef :: undef :: undef :: undef :: undef :: undef :: undef :: undef :: undef :: undef :: undef :: undef :: undef :: undef :: undef :: undef :: undef :: undef :: undef :: undef :: undef :: []), []⟩) 0 (fun _ => 0) (fun _ => 0) (fun _ => 0) (fun _ => []) (fun _ => []) [7, 8] (.inr ⟨rfl, by kernel_rfl⟩) (by kernel_rfl) rfl rfl rfl ?_ ?_)
  · refine GSteps.cons (gm_valg (fun γ => .pointer (some ⟨(γ1 0), 12, none⟩)) rfl (fun _ => rfl) (fun _ => rfl) (fun γ w h => ex_field faG1_2 rfl) rfl) ?_
    refine GSteps.cons (gm_val (v := .bool false) rfl (fun _ => rfl) (fun _ => rfl) (fun γ w h => ex_load1 2 (s := .b false) (v := .bool false) sgBool rfl (A2.keep h.out) rfl rfl rfl) rfl) ?_
    exact GSteps.nil
  intro _ w6 hb6 _ _
  refine th_r ?_
  have A7 := A2.keep hb6.out
  have A8 := A3.keep hb6.out
  have A9 := A4.keep hb6.out
  have HB10 := below_then HB5 hb6.out
  refine wp_cond_false rfl ?_
  refine wp_skip ?_
  refine th_r ?_
  refine wp_seq ?_
  refine wp_seq (region_m (F := fun _ => ⟨List.toArray ((sv [.n 6 x.val, .n 6 y.val, .b false]) :: (sv [.n 6 0, .n 6 0, .b true]) :: (sv [.n 6 x.val, .n 6 y.val, .b false]) :: (.pointer (some ⟨(γ1 0), 0, none⟩)) :: (.pointer (some ⟨(γ1 1), 0, none⟩)) :: (.pointer (some ⟨(γ1 2), 0, none⟩)) :: (.bool false) :: (.pointer (some ⟨(γ1 0), 12, none⟩)) :: (.bool false) :: undef :: undef :: undef :: (.pointer (some ⟨(γ1 1), 12, none⟩)) :: (.bool true) :: undef :: undef :: undef :: undef :: undef :: undef :: undef :: undef :: undef :: undef :: undef :: undef :: undef :: undef :: undef :: undef :: undef :: undef :: undef :: undef :: undef :: undef :: undef :: undef :: undef :: undef :: undef :: undef :: undef :: undef :: undef :: undef :: undef :: undef :: undef :: undef :: undef :: undef :: undef :: undef :: undef :: undef :: undef :: undef :: undef :: undef :: undef :: undef :: undef :: undef :: undef :: undef :: undef :: undef :: undef :: undef :: undef :: undef :: undef :: undef :: []), []⟩) 0 (fun _ => 0) (fun _ => 0) (fun _ => 0) (fun _ => []) (fun _ => []) [12, 13] (.inr ⟨rfl, by kernel_rfl⟩) (by kernel_rfl) rfl rfl rfl ?_ ?_)
  · refine GSteps.cons (gm_valg (fun γ => .pointer (some ⟨(γ1 1), 12, none⟩)) rfl (fun _ => rfl) (fun _ => rfl) (fun γ w h => ex_field faG1_2 rfl) rfl) ?_
    refine GSteps.cons (gm_val (v := .bool true) rfl (fun _ => rfl) (fun _ => rfl) (fun γ w h => ex_load1 2 (s := .b true) (v := .bool true) sgBool rfl (A8.keep h.out) rfl rfl rfl) rfl) ?_
    exact GSteps.nil
  intro _ w11 hb11 _ _
  refine th_r ?_
  have A12 := A7.keep hb11.out
  have A13 := A8.keep hb11.out
  have A14 := A9.keep hb11.out
  have HB15 := below_then HB10 hb11.out
  refine wp_cond_true rfl ?_
  refine wp_seq (region_m (F := fun _ => ⟨List.toArray ((sv [.n 6 x.val, .n 6 y.val, .b false]) :: (sv [.n 6 0, .n 6 0, .b true]) :: (sv [.n 6 x.val, .n 6 y.val, .b false]) :: (.pointer (some ⟨(γ1 0), 0, none⟩)) :: (.pointer (some ⟨(γ1 1), 0, none⟩)) :: (.pointer (some ⟨(γ1 2), 0, none⟩)) :: (.bool true) :: (.pointer (some ⟨(γ1 0), 12, none⟩)) :: (.bool false) :: undef :: undef :: undef :: (.pointer (some ⟨(γ1 1), 12, none⟩)) :: (.bool true) :: (sv [.n 6 x.val, .n 6 y.val, .b false]) :: (sv [.n 6 x.val, .n 6 y.val, .b false]) :: (.bool true) :: undef :: undef :: undef :: undef :: undef :: undef :: undef :: undef :: undef :: undef :: undef :: undef :: undef :: undef :: undef :: undef :: undef :: undef :: undef :: undef :: undef :: undef :: undef :: undef :: undef :: undef :: undef :: undef :: undef :: undef :: undef :: undef :: undef :: undef :: undef :: undef :: undef :: undef :: undef :: undef :: undef :: undef :: undef :: undef :: undef :: undef :: undef :: undef :: undef :: undef :: undef :: undef :: undef :: undef :: undef :: undef :: undef :: []), []⟩) 0 (fun _ => 0) (fun _ => 0) (fun _ => 0) (fun _ => []) (fun _ => []) [14, 15, 16, 6] (.inr ⟨rfl, by kernel_rfl⟩) (by kernel_rfl) rfl rfl rfl ?_ ?_)
  · refine GSteps.cons (gm_val (v := sv [.n 6 x.val, .n 6 y.val, .b false]) rfl (fun _ => rfl) (fun _ => rfl) (fun γ w h => ex_loads 0 3 (m := [.n 6 x.val, .n 6 y.val, .b false]) flG1 rfl rfl (A14.keep h.out) rfl rfl) rfl) ?_
    refine GSteps.cons (gm_val (v := sv [.n 6 x.val, .n 6 y.val, .b false]) rfl (fun _ => rfl) (fun _ => rfl) (fun γ w h => ex_loads 0 3 (m := [.n 6 x.val, .n 6 y.val, .b false]) flG1 rfl rfl (A12.keep h.out) rfl rfl) rfl) ?_
    refine GSteps.cons (gm_val (v := .bool true) rfl (fun _ => rfl) (fun _ => rfl) (fun γ w h => ex_eqs gdG1 eqG1 rfl rfl rfl (shG1_of (zp_B x) (zp_B y)) (shG1_of (zp_B x) (zp_B y)) true (by simp)) rfl) ?_
    refine GSteps.cons (gm_val (v := .bool true) rfl (fun _ => rfl) (fun _ => rfl) (fun γ w h => ex_assign _) rfl) ?_
    exact GSteps.nil
  intro _ w16 hb16 _ _
  refine th_r ?_
  have A17 := A12.keep hb16.out
  have A18 := A13.keep hb16.out
  have A19 := A14.keep hb16.out
  have HB20 := below_then HB15 hb16.out
  exact wp_ret (th_ret (bodyPost_ret (ret1 Try.results18 (res_tmp rfl)) rfl ⟨rfl, HB20⟩))

set_option maxRecDepth 20000 in
set_option maxHeartbeats 4000000 in
theorem r8Sum_opp (x y z : Zp) (hz : y = -z) (w : World) :
    Calls Try.prog 18 #[sv [.n 6 x.val, .n 6 y.val, .b false], sv [.n 6 x.val, .n 6 z.val, .b false], sv [.n 6 0, .n 6 0, .b true]] w (Is (.bool true) w) := by
  obtain ⟨z1, ez1⟩ : ∃ q_ : Zp, q_ = -z := ⟨_, rfl⟩
  go_enter Try.func18, Try.ntmps18
  refine wp_seq (region_m (F := fun γ => ⟨List.toArray ((sv [.n 6 x.val, .n 6 y.val, .b false]) :: (sv [.n 6 x.val, .n 6 z.val, .b false]) :: (sv [.n 6 0, .n 6 0, .b true]) :: (.pointer (some ⟨γ 0, 0, none⟩)) :: (.pointer (some ⟨γ 1, 0, none⟩)) :: (.pointer (some ⟨γ 2, 0, none⟩)) :: (.bool false) :: undef :: undef :: undef :: undef :: undef :: undef :: undef :: undef :: undef :: undef :: undef :: undef :: undef :: undef :: undef :: undef :: undef :: undef :: undef :: undef :: undef :: undef :: undef :: undef :: undef :: undef :: undef :: undef :: undef :: undef :: undef :: undef :: undef :: undef :: undef :: undef :: undef :: undef :: undef :: undef :: undef :: undef :: undef :: undef :: undef :: undef :: undef :: undef :: undef :: undef :: undef :: undef :: undef :: undef :: undef :: undef :: undef :: undef :: undef :: undef :: undef :: undef :: undef :: undef :: undef :: undef :: undef :: []), []⟩) 3 (fun j_ => match j_ with | 0 => 26 | 1 => 26 | _ => 26) (fun j_ => match j_ with | 0 => 0 | 1 => 1 | _ => 2) (fun j_ => match j_ with | 0 => 0 | 1 => 1 | _ => 2) (fun j_ => match j_ with | 0 => segs [.n 6 x.val, .n 6 y.val, .b false] | 1 => segs [.n 6 x.val, .n 6 z.val, .b false] | _ => segs [.n 6 0, .n 6 0, .b true]) (fun j_ => match j_ with | 0 => segs [.n 6 x.val, .n 6 y.val, .b false] | 1 => segs [.n 6 x.val, .n 6 z.val, .b false] | _ => segs [.n 6 0, .n 6 0, .b true]) [3, 4, 5, 6] (.inr ⟨rfl, by kernel_rfl⟩) (by kernel_rfl) rfl rfl rfl ?_ ?_)
  · refine GSteps.cons (gm_box 0 rfl (fun _ => rfl) (fun _ _ => rfl) (fun γ w h => ex_boxs (l := [.n 6 x.val, .n 6 y.val, .b false]) rfl) rfl rfl rfl) ?_
    refine GSteps.cons (gm_box 1 rfl (fun _ => rfl) (fun _ _ => rfl) (fun γ w h => ex_boxs (l := [.n 6 x.val, .n 6 z.val, .b false]) rfl) rfl rfl rfl) ?_
    refine GSteps.cons (gm_box 2 rfl (fun _ => rfl) (fun _ _ => rfl) (fun γ w h => ex_boxs (l := [.n 6 0, .n 6 0, .b true]) rfl) rfl rfl rfl) ?_
    refine GSteps.cons (gm_val (v := .bool false) rfl (fun _ => rfl) (fun _ => rfl) (fun γ w h => ex_assign _) rfl) ?_
    exact GSteps.nil
  intro γ1 w1 hb1 hB1 hn1
  refine th_r ?_
  have A2 : SB 26 w1 (γ1 0) [.n 6 x.val, .n 6 y.val, .b false] := (hB1 0 (by decide)).2
  have le2 := (hB1 0 (by decide)).1
  have A3 : SB 26 w1 (γ1 1) [.n 6 x.val, .n 6 z.val, .b false] := (hB1 1 (by decide)).2
  have le3 := (hB1 1 (by decide)).1
  have A4 : SB 26 w1 (γ1 2) [.n 6 0, .n 6 0, .b true] := (hB1 2 (by decide)).2
  have le4 := (hB1 2 (by decide)).1
  have HB5 := below_then (Below.refl w.heap.size w) hb1.out
  refine wp_seq ?_
  refine wp_seq (region_m (F := fun _ => ⟨List.toArray ((sv [.n 6 x.val, .n 6 y.val, .b false]) :: (sv [.n 6 x.val, .n 6 z.val, .b false]) :: (sv [.n 6 0, .n 6 0, .b true]) :: (.pointer (some ⟨(γ1 0), 0, none⟩)) :: (.pointer (some ⟨(γ1 1), 0, none⟩)) :: (.pointer (some ⟨(γ1 2), 0, none⟩)) :: (.bool false) :: (.pointer (some ⟨(γ1 0), 12, none⟩)) :: (.bool false) :: undef :: undef :: undef :: undef :: undef :: undef :: undef :: undef :: undef :: undef :: undef :: undef :: undef :: undef :: undef :: undef :: undef :: undef :: undef :: undef :: undef :: undef :: undef :: undef :: undef :: undef :: undef :: undef :: undef :: undef :: undef :: undef :: undef :: undef :: undef :: undef :: undef :: undef :: undef :: undef :: undef :: undef :: undef :: undef :: undef :: undef :: undef :: undef :: undef :: undef :: undef :: undef :: undef :: undef :: undef :: undef :: undef :: undef :: undef :: undef :: undef :: undef :: undef :: undef :: undef :: []), []⟩) 0 (fun _ => 0) (fun _ => 0) (fun _ => 0) (fun _ => []) (fun _ => []) [7, 8] (.inr ⟨rfl, by kernel_rfl⟩) (by kernel_rfl) rfl rfl rfl ?_ ?_)
  · refine GSteps.cons (gm_valg (fun γ => .pointer (some ⟨(γ1 0), 12, none⟩)) rfl (fun _ => rfl) (fun _ => rfl) (fun γ w h => ex_field faG1_2 rfl) rfl) ?_
    refine GSteps.cons (gm_val (v := .bool false) rfl (fun _ => rfl) (fun _ => rfl) (fun γ w h => ex_load1 2 (s := .b false) (v := .bool false) sgBool rfl (A2.keep h.out) rfl rfl rfl) rfl) ?_
    exact GSteps.nil
  intro _ w6 hb6 _ _
  refine th_r ?_
  have A7 := A2.keep hb6.out
  have A8 := A3.keep hb6.out
  have A9 := A4.keep hb6.out
  have HB10 := below_then HB5 hb6.out
  refine wp_cond_false rfl ?_
  refine wp_skip ?_
  refine th_r ?_
  refine wp_seq ?_
  refine wp_seq (region_m (F := fun _ => ⟨List.toArray ((sv [.n 6 x.val, .n 6 y.val, .b false]) :: (sv [.n 6 x.val, .n 6 z.val, .b false]) :: (sv [.n 6 0, .n 6 0, .b true]) :: (.pointer (some ⟨(γ1 0), 0, none⟩)) :: (.pointer (some ⟨(γ1 1), 0, none⟩)) :: (.pointer (some ⟨(γ1 2), 0, none⟩)) :: (.bool false) :: (.pointer (some ⟨(γ1 0), 12, none⟩)) :: (.bool false) :: undef :: undef :: undef :: (.pointer (some ⟨(γ1 1), 12, none⟩)) :: (.bool false) :: undef :: undef :: undef :: undef :: undef :: undef :: undef :: undef :: undef :: undef :: undef :: undef :: undef :: undef :: undef :: undef :: undef :: undef :: undef :: undef :: undef :: undef :: undef :: undef :: undef :: undef :: undef :: undef :: undef :: undef :: undef :: undef :: undef :: undef :: undef :: undef :: undef :: undef :: undef :: undef :: undef :: undef :: undef :: undef :: undef :: undef :: undef :: undef :: undef :: undef :: undef :: undef :: undef :: undef :: undef :: undef :: undef :: undef :: undef :: undef :: []), []⟩) 0 (fun _ => 0) (fun _ => 0) (fun _ => 0) (fun _ => []) (fun _ => []) [12, 13] (.inr ⟨rfl, by kernel_rfl⟩) (by kernel_rfl) rfl rfl rfl ?_ ?_)
  · refine GSteps.cons (gm_valg (fun γ => .pointer (some ⟨(γ1 1), 12, none⟩)) rfl (fun _ => rfl) (fun _ => rfl) (fun γ w h => ex_field faG1_2 rfl) rfl) ?_
    refine GSteps.cons (gm_val (v := .bool false) rfl (fun _ => rfl) (fun _ => rfl) (fun γ w h => ex_load1 2 (s := .b false) (v := .bool false) sgBool rfl (A8.keep h.out) rfl rfl rfl) rfl) ?_
    exact GSteps.nil
  intro _ w11 hb11 _ _
  refine th_r ?_
  have A12 := A7.keep hb11.out
  have A13 := A8.keep hb11.out
  have A14 := A9.keep hb11.out
  have HB15 := below_then HB10 hb11.out
  refine wp_cond_false rfl ?_
  refine wp_skip ?_
  refine th_r ?_
  refine wp_seq ?_
  refine wp_seq (region_m (F := fun _ => ⟨List.toArray ((sv [.n 6 x.val, .n 6 y.val, .b false]) :: (sv [.n 6 x.val, .n 6 z.val, .b false]) :: (sv [.n 6 0, .n 6 0, .b true]) :: (.pointer (some ⟨(γ1 0), 0, none⟩)) :: (.pointer (some ⟨(γ1 1), 0, none⟩)) :: (.pointer (some ⟨(γ1 2), 0, none⟩)) :: (.bool false) :: (.pointer (some ⟨(γ1 0), 12, none⟩)) :: (.bool false) :: undef :: undef :: undef :: (.pointer (some ⟨(γ1 1), 12, none⟩)) :: (.bool false) :: undef :: undef :: undef :: (.pointer (some ⟨(γ1 0), 0, none⟩)) :: (nv 6 [x.val]) :: (.pointer (some ⟨(γ1 1), 0, none⟩)) :: (nv 6 [x.val]) :: (.bool true) :: (.bool true) :: (.pointer (some ⟨(γ1 0), 6, none⟩)) :: (nv 6 [y.val]) :: (.pointer (some ⟨(γ1 1), 6, none⟩)) :: (nv 6 [z.val]) :: (nv 6 [z1.val]) :: (.bool true) :: (.bool true) :: undef :: undef :: undef :: undef :: undef :: undef :: undef :: undef :: undef :: undef :: undef :: undef :: undef :: undef :: undef :: undef :: undef :: undef :: undef :: undef :: undef :: undef :: undef :: undef :: undef :: undef :: undef :: undef :: undef :: undef :: undef :: undef :: undef :: undef :: undef :: undef :: undef :: undef :: undef :: undef :: undef :: undef :: undef :: undef :: []), []⟩) 0 (fun _ => 0) (fun _ => 0) (fun _ => 0) (fun _ => []) (fun _ => []) [17, 18, 19, 20, 21, 22, 23, 24, 25, 26, 27, 28, 29] (.inl ⟨rfl, by kernel_rfl⟩) (by kernel_rfl) rfl rfl rfl ?_ ?_)
  · refine GSteps.cons (gm_valg (fun γ => .pointer (some ⟨(γ1 0), 0, none⟩)) rfl (fun _ => rfl) (fun _ => rfl) (fun γ w h => ex_field faG1_0 rfl) rfl) ?_
    refine GSteps.cons (gm_val (v := nv 6 [x.val]) rfl (fun _ => rfl) (fun _ => rfl) (fun γ w h => ex_loadsn (K := 6) 0 1 (m := [x.val]) flFp rfl rfl (A12.keep h.out) rfl rfl) rfl) ?_
    refine GSteps.cons (gm_valg (fun γ => .pointer (some ⟨(γ1 1), 0, none⟩)) rfl (fun _ => rfl) (fun _ => rfl) (fun γ w h => ex_field faG1_0 rfl) rfl) ?_
    refine GSteps.cons (gm_val (v := nv 6 [x.val]) rfl (fun _ => rfl) (fun _ => rfl) (fun γ w h => ex_loadsn (K := 6) 0 1 (m := [x.val]) flFp rfl rfl (A13.keep h.out) rfl rfl) rfl) ?_
    refine GSteps.cons (gm_val (v := .bool true) rfl (fun _ => rfl) (fun _ => rfl) (fun γ w h => ex_eqt (K := 6) (l := [x.val]) eqFp rfl rfl rfl rfl) rfl) ?_
    refine GSteps.cons (gm_val (v := .bool true) rfl (fun _ => rfl) (fun _ => rfl) (fun γ w h => ex_move _) rfl) ?_
    refine GSteps.cons (gm_valg (fun γ => .pointer (some ⟨(γ1 0), 6, none⟩)) rfl (fun _ => rfl) (fun _ => rfl) (fun γ w h => ex_field faG1_1 rfl) rfl) ?_
    refine GSteps.cons (gm_val (v := nv 6 [y.val]) rfl (fun _ => rfl) (fun _ => rfl) (fun γ w h => ex_loadsn (K := 6) 1 1 (m := [y.val]) flFp rfl rfl (A12.keep h.out) rfl rfl) rfl) ?_
    refine GSteps.cons (gm_valg (fun γ => .pointer (some ⟨(γ1 1), 6, none⟩)) rfl (fun _ => rfl) (fun _ => rfl) (fun γ w h => ex_field faG1_1 rfl) rfl) ?_
    refine GSteps.cons (gm_val (v := nv 6 [z.val]) rfl (fun _ => rfl) (fun _ => rfl) (fun γ w h => ex_loadsn (K := 6) 1 1 (m := [z.val]) flFp rfl rfl (A13.keep h.out) rfl rfl) rfl) ?_
    refine GSteps.cons (gm_call (v := nv 6 [z1.val]) rfl (fun _ => rfl) (fun _ => rfl) (fun γ w => ex_call (vs := [nv 6 [z.val]]) rfl Try.call37 rfl) (fun w h => r4Neg_e z z1 rfl ez1 _) rfl) ?_
    refine GSteps.cons (gm_val (v := .bool true) rfl (fun _ => rfl) (fun _ => rfl) (fun γ w h => ex_eqz y z1 rfl rfl rfl rfl true ⟨fun _ => (by subst ez1; exact hz), fun _ => rfl⟩) rfl) ?_
    refine GSteps.cons (gm_val (v := .bool true) rfl (fun _ => rfl) (fun _ => rfl) (fun γ w h => ex_pick (r := true) rfl) rfl) ?_
    exact GSteps.nil
  intro _ w16 hb16 _ _
  refine th_r ?_
  have A17 := A12.keep hb16.out
  have A18 := A13.keep hb16.out
  have A19 := A14.keep hb16.out
  have HB20 := below_then HB15 hb16.out
  refine wp_cond_true rfl ?_
  refine wp_seq (region_m (F := fun _ => ⟨List.toArray ((sv [.n 6 x.val, .n 6 y.val, .b false]) :: (sv [.n 6 x.val, .n 6 z.val, .b false]) :: (sv [.n 6 0, .n 6 0, .b true]) :: (.pointer (some ⟨(γ1 0), 0, none⟩)) :: (.pointer (some ⟨(γ1 1), 0, none⟩)) :: (.pointer (some ⟨(γ1 2), 0, none⟩)) :: (.bool true) :: (.pointer (some ⟨(γ1 0), 12, none⟩)) :: (.bool false) :: undef :: undef :: undef :: (.pointer (some ⟨(γ1 1), 12, none⟩)) :: (.bool false) :: undef :: undef :: undef :: (.pointer (some ⟨(γ1 0), 0, none⟩)) :: (nv 6 [x.val]) :: (.pointer (some ⟨(γ1 1), 0, none⟩)) :: (nv 6 [x.val]) :: (.bool true) :: (.bool true) :: (.pointer (some ⟨(γ1 0), 6, none⟩)) :: (nv 6 [y.val]) :: (.pointer (some ⟨(γ1 1), 6, none⟩)) :: (nv 6 [z.val]) :: (nv 6 [z1.val]) :: (.bool true) :: (.bool true) :: (sv [.n 6 0, .n 6 0, .b true]) :: (sv [.n 6 0, .n 6 0, .b true]) :: (.bool true) :: undef :: undef :: undef :: undef :: undef :: undef :: undef :: undef :: undef :: undef :: undef :: undef :: undef :: undef :: undef :: undef :: undef :: undef :: undef :: undef :: undef :: undef :: undef :: undef :: undef :: undef :: undef :: undef :: undef :: undef :: undef :: undef :: undef :: undef :: undef :: undef :: undef :: undef :: undef :: undef :: undef :: []), []⟩) 0 (fun _ => 0) (fun _ => 0) (fun _ => 0) (fun _ => []) (fun _ => []) [30, 31, 32, 6] (.inr ⟨rfl, by kernel_rfl⟩) (by kernel_rfl) rfl rfl rfl ?_ ?_)
  · refine GSteps.cons (gm_val (v := sv [.n 6 0, .n 6 0, .b true]) rfl (fun _ => rfl) (fun _ => rfl) (fun γ w h => ex_loads 0 3 (m := [.n 6 0, .n 6 0, .b true]) flG1 rfl rfl (A19.keep h.out) rfl rfl) rfl) ?_
    refine GSteps.cons (gm_val (v := sv [.n 6 0, .n 6 0, .b true]) rfl (fun _ => rfl) (fun _ => rfl) (fun γ w h => ex_builds stG1 (l := [.n 6 0, .n 6 0, .b true]) (vs := [(2, .bool true)]) rfl ((fills_cons 2 1 (m := [.b true]) (z' := [.n 6 0, .n 6 0, .b true]) rfl (bool_cells true) rfl rfl rfl rfl).trans rfl)) rfl) ?_
    refine GSteps.cons (gm_val (v := .bool true) rfl (fun _ => rfl) (fun _ => rfl) (fun γ w h => ex_eqs gdG1 eqG1 rfl rfl rfl (shG1_of zero_B zero_B) (shG1_of zero_B zero_B) true (by simp)) rfl) ?_
    refine GSteps.cons (gm_val (v := .bool true) rfl (fun _ => rfl) (fun _ => rfl) (fun γ w h => ex_assign _) rfl) ?_
    exact GSteps.nil
  intro _ w21 hb21 _ _
  refine th_r ?_
  have A22 := A17.keep hb21.out
  have A23 := A18.keep hb21.out
  have A24 := A19.keep hb21.out
  have HB25 := below_then HB20 hb21.out
  exact wp_ret (th_ret (bodyPost_ret (ret1 Try.results18 (res_tmp rfl)) rfl ⟨rfl, HB25⟩))

set_option maxRecDepth 20000 in
set_option maxHeartbeats 4000000 in
theorem r8Sum_chord (x1 y1 x2 y2 x3 y3 : Zp) (hx : x1 ≠ x2) (h1 : (x3 + (x1 + x2)) * ((x2 - x1) * (x2 - x1)) = (y2 - y1) * (y2 - y1)) (h2 : (y3 + y1) * (x2 - x1) = (y2 - y1) * (x1 - x3)) (hR : ∀ w, Calls Try.prog 9 #[sv [.n 6 x3.val, .n 6 y3.val, .b false]] w (Is (.bool true) w)) (w : World) :
    Calls Try.prog 18 #[sv [.n 6 x1.val, .n 6 y1.val, .b false], sv [.n 6 x2.val, .n 6 y2.val, .b false], sv [.n 6 x3.val, .n 6 y3.val, .b false]] w (Is (.bool true) w) := by
  obtain ⟨z1, ez1⟩ : ∃ q_ : Zp, q_ = x2 - x1 := ⟨_, rfl⟩
  obtain ⟨z2, ez2⟩ : ∃ q_ : Zp, q_ = y2 - y1 := ⟨_, rfl⟩
  go_enter Try.func18, Try.ntmps18
  refine wp_seq (region_m (F := fun γ => ⟨List.toArray ((sv [.n 6 x1.val, .n 6 y1.val, .b false]) :: (sv [.n 6 x2.val, .n 6 y2.val, .b false]) :: (sv [.n 6 x3.val, .n 6 y3.val, .b false]) :: (.pointer (some ⟨γ 0, 0, none⟩)) :: (.pointer (some ⟨γ 1, 0, none⟩)) :: (.pointer (some ⟨γ 2, 0, none⟩)) :: (.bool false) :: undef :: undef :: undef :: undef :: undef :: undef :: undef :: undef :: undef :: undef :: undef :: undef :: undef :: undef :: undef :: undef :: undef :: undef :: undef :: undef :: undef :: undef :: undef :: undef :: undef :: undef :: undef :: undef :: undef :: undef :: undef :: undef :: undef :: undef :: undef :: undef :: undef :: undef :: undef :: undef :: undef :: undef :: undef :: undef :: undef :: undef :: undef :: undef :: undef :: undef :: undef :: undef :: undef :: undef :: undef :: undef :: undef :: undef :: undef :: undef :: undef :: undef :: undef :: undef :: undef :: undef :: undef :: []), []⟩) 3 (fun j_ => match j_ with | 0 => 26 | 1 => 26 | _ => 26) (fun j_ => match j_ with | 0 => 0 | 1 => 1 | _ => 2) (fun j_ => match j_ with | 0 => 0 | 1 => 1 | _ => 2) (fun j_ => match j_ with | 0 => segs [.n 6 x1.val, .n 6 y1.val, .b false] | 1 => segs [.n 6 x2.val, .n 6 y2.val, .b false] | _ => segs [.n 6 x3.val, .n 6 y3.val, .b false]) (fun j_ => match j_ with | 0 => segs [.n 6 x1.val, .n 6 y1.val, .b false] | 1 => segs [.n 6 x2.val, .n 6 y2.val, .b false] | _ => segs [.n 6 x3.val, .n 6 y3.val, .b false]) [3, 4, 5, 6] (.inr ⟨rfl, by kernel_rfl⟩) (by kernel_rfl) rfl rfl rfl ?_ ?_)
  · refine GSteps.cons (gm_box 0 rfl (fun _ => rfl) (fun _ _ => rfl) (fun γ w h => ex_boxs (l := [.n 6 x1.val, .n 6 y1.val, .b false]) rfl) rfl rfl rfl) ?_
    refine GSteps.cons (gm_box 1 rfl (fun _ => rfl) (fun _ _ => rfl) (fun γ w h => ex_boxs (l := [.n 6 x2.val, .n 6 y2.val, .b false]) rfl) rfl rfl rfl) ?_
    refine GSteps.cons (gm_box 2 rfl (fun _ => rfl) (fun _ _ => rfl) (fun γ w h => ex_boxs (l := [.n 6 x3.val, .n 6 y3.val, .b false]) rfl) rfl rfl rfl) ?_
    refine GSteps.cons (gm_val (v := .bool false) rfl (fun _ => rfl) (fun _ => rfl) (fun γ w h => ex_assign _) rfl) ?_
    exact GSteps.nil
  intro γ1 w1 hb1 hB1 hn1
  refine th_r ?_
  have A2 : SB 26 w1 (γ1 0) [.n 6 x1.val, .n 6 y1.val, .b false] := (hB1 0 (by decide)).2
  have le2 := (hB1 0 (by decide)).1
  have A3 : SB 26 w1 (γ1 1) [.n 6 x2.val, .n 6 y2.val, .b false] := (hB1 1 (by decide)).2
  have le3 := (hB1 1 (by decide)).1
  have A4 : SB 26 w1 (γ1 2) [.n 6 x3.val, .n 6 y3.val, .b false] := (hB1 2 (by decide)).2
  have le4 := (hB1 2 (by decide)).1
  have HB5 := below_then (Below.refl w.heap.size w) hb1.out
  refine wp_seq ?_
  refine wp_seq (region_m (F := fun _ => ⟨List.toArray ((sv [.n 6 x1.val, .n 6 y1.val, .b false]) :: (sv [.n 6 x2.val, .n 6 y2.val, .b false]) :: (sv [.n 6 x3.val, .n 6 y3.val, .b false]) :: (.pointer (some ⟨(γ1 0), 0, none⟩)) :: (.pointer (some ⟨(γ1 1), 0, none⟩)) :: (.pointer (some ⟨(γ1 2), 0, none⟩)) :: (.bool false) :: (.pointer (some ⟨(γ1 0), 12, none⟩)) :: (.bool false) :: undef :: undef :: undef :: undef :: undef :: undef :: undef :: undef :: undef :: undef :: undef :: undef :: undef :: undef :: undef :: undef :: undef :: undef :: undef :: undef :: undef :: undef :: undef :: undef :: undef :: undef :: undef :: undef :: undef :: undef :: undef :: undef :: undef :: undef :: undef :: undef :: undef :: undef :: undef :: undef :: undef :: undef :: undef :: undef :: undef :: undef :: undef :: undef :: undef :: undef :: undef :: undef :: undef :: undef :: undef :: undef :: undef :: undef :: undef :: undef :: undef :: undef :: undef :: undef :: undef :: []), []⟩) 0 (fun _ => 0) (fun _ => 0) (fun _ => 0) (fun _ => []) (fun _ => []) [7, 8] (.inr ⟨rfl, by kernel_rfl⟩) (by kernel_rfl) rfl rfl rfl ?_ ?_)
  · refine GSteps.cons (gm_valg (fun γ => .pointer (some ⟨(γ1 0), 12, none⟩)) rfl (fun _ => rfl) (fun _ => rfl) (fun γ w h => ex_field faG1_2 rfl) rfl) ?_
    refine GSteps.cons (gm_val (v := .bool false) rfl (fun _ => rfl) (fun _ => rfl) (fun γ w h => ex_load1 2 (s := .b false) (v := .bool false) sgBool rfl (A2.keep h.out) rfl rfl rfl) rfl) ?_
    exact GSteps.nil
  intro _ w6 hb6 _ _
  refine th_r ?_
  have A7 := A2.keep hb6.out
  have A8 := A3.keep hb6.out
  have A9 := A4.keep hb6.out
  have HB10 := below_then HB5 hb6.out
  refine wp_cond_false rfl ?_
  refine wp_skip ?_
  refine th_r ?_
  refine wp_seq ?_
  refine wp_seq (region_m (F := fun _ => ⟨List.toArray ((sv [.n 6 x1.val, .n 6 y1.val, .b false]) :: (sv [.n 6 x2.val, .n 6 y2.val, .b false]) :: (sv [.n 6 x3.val, .n 6 y3.val, .b false]) :: (.pointer (some ⟨(γ1 0), 0, none⟩)) :: (.pointer (some ⟨(γ1 1), 0, none⟩)) :: (.pointer (some ⟨(γ1 2), 0, none⟩)) :: (.bool false) :: (.pointer (some ⟨(γ1 0), 12, none⟩)) :: (.bool false) :: undef :: undef :: undef :: (.pointer (some ⟨(γ1 1), 12, none⟩)) :: (.bool false) :: undef :: undef :: undef :: undef :: undef :: undef :: undef :: undef :: undef :: undef :: undef :: undef :: undef :: undef :: undef :: undef :: undef :: undef :: undef :: undef :: undef :: undef :: undef :: undef :: undef :: undef :: undef :: undef :: undef :: undef :: undef :: undef :: undef :: undef :: undef :: undef :: undef :: undef :: undef :: undef :: undef :: undef :: undef :: undef :: undef :: undef :: undef :: undef :: undef :: undef :: undef :: undef :: undef :: undef :: undef :: undef :: undef :: undef :: undef :: undef :: []), []⟩) 0 (fun _ => 0) (fun _ => 0) (fun _ => 0) (fun _ => []) (fun _ => []) [12, 13] (.inr ⟨rfl, by kernel_rfl⟩) (by kernel_rfl) rfl rfl rfl ?_ ?_)
  · refine GSteps.cons (gm_valg (fun γ => .pointer (some ⟨(γ1 1), 12, none⟩)) rfl (fun _ => rfl) (fun _ => rfl) (fun γ w h => ex_field faG1_2 rfl) rfl) ?_
    refine GSteps.cons (gm_val (v := .bool false) rfl (fun _ => rfl) (fun _ => rfl) (fun γ w h => ex_load1 2 (s := .b false) (v := .bool false) sgBool rfl (A8.keep h.out) rfl rfl rfl) rfl) ?_
    exact GSteps.nil
  intro _ w11 hb11 _ _
  refine th_r ?_
  have A12 := A7.keep hb11.out
  have A13 := A8.keep hb11.out
  have A14 := A9.keep hb11.out
  have HB15 := below_then HB10 hb11.out
  refine wp_cond_false rfl ?_
  refine wp_skip ?_
  refine th_r ?_
  refine wp_seq ?_
  refine wp_seq (region_m (F := fun _ => ⟨List.toArray ((sv [.n 6 x1.val, .n 6 y1.val, .b false]) :: (sv [.n 6 x2.val, .n 6 y2.val, .b false]) :: (sv [.n 6 x3.val, .n 6 y3.val, .b false]) :: (.pointer (some ⟨(γ1 0), 0, none⟩)) :: (.pointer (some ⟨(γ1 1), 0, none⟩)) :: (.pointer (some ⟨(γ1 2), 0, none⟩)) :: (.bool false) :: (.pointer (some ⟨(γ1 0), 12, none⟩)) :: (.bool false) :: undef :: undef :: undef :: (.pointer (some ⟨(γ1 1), 12, none⟩)) :: (.bool false) :: undef :: undef :: undef :: (.pointer (some ⟨(γ1 0), 0, none⟩)) :: (nv 6 [x1.val]) :: (.pointer (some ⟨(γ1 1), 0, none⟩)) :: (nv 6 [x2.val]) :: (.bool false) :: (.bool false) :: undef :: undef :: undef :: undef :: undef :: undef :: (.bool false) :: undef :: undef :: undef :: undef :: undef :: undef :: undef :: undef :: undef :: undef :: undef :: undef :: undef :: undef :: undef :: undef :: undef :: undef :: undef :: undef :: undef :: undef :: undef :: undef :: undef :: undef :: undef :: undef :: undef :: undef :: undef :: undef :: undef :: undef :: undef :: undef :: undef :: undef :: undef :: undef :: undef :: undef :: undef :: undef :: []), []⟩) 0 (fun _ => 0) (fun _ => 0) (fun _ => 0) (fun _ => []) (fun _ => []) [17, 18, 19, 20, 21, 22, 23, 24, 25, 26, 27, 28, 29] (.inl ⟨rfl, by kernel_rfl⟩) (by kernel_rfl) rfl rfl rfl ?_ ?_)
  · refine GSteps.cons (gm_valg (fun γ => .pointer (some ⟨(γ1 0), 0, none⟩)) rfl (fun _ => rfl) (fun _ => rfl) (fun γ w h => ex_field faG1_0 rfl) rfl) ?_
    refine GSteps.cons (gm_val (v := nv 6 [x1.val]) rfl (fun _ => rfl) (fun _ => rfl) (fun γ w h => ex_loadsn (K := 6) 0 1 (m := [x1.val]) flFp rfl rfl (A12.keep h.out) rfl rfl) rfl) ?_
    refine GSteps.cons (gm_valg (fun γ => .pointer (some ⟨(γ1 1), 0, none⟩)) rfl (fun _ => rfl) (fun _ => rfl) (fun γ w h => ex_field faG1_0 rfl) rfl) ?_
    refine GSteps.cons (gm_val (v := nv 6 [x2.val]) rfl (fun _ => rfl) (fun _ => rfl) (fun γ w h => ex_loadsn (K := 6) 0 1 (m := [x2.val]) flFp rfl rfl (A13.keep h.out) rfl rfl) rfl) ?_
    refine GSteps.cons (gm_val (v := .bool false) rfl (fun _ => rfl) (fun _ => rfl) (fun γ w h => ex_eqz x1 x2 rfl rfl rfl rfl false ⟨fun e => Bool.noConfusion e, fun e => absurd e hx⟩) rfl) ?_
    refine GSteps.cons (gm_val (v := .bool false) rfl (fun _ => rfl) (fun _ => rfl) (fun γ w h => ex_move _) rfl) ?_
    refine GSteps.cons (gm_skip rfl (fun _ => rfl) (fun _ => rfl) rfl) ?_
    refine GSteps.cons (gm_skip rfl (fun _ => rfl) (fun _ => rfl) rfl) ?_
    refine GSteps.cons (gm_skip rfl (fun _ => rfl) (fun _ => rfl) rfl) ?_
    refine GSteps.cons (gm_skip rfl (fun _ => rfl) (fun _ => rfl) rfl) ?_
    refine GSteps.cons (gm_skip rfl (fun _ => rfl) (fun _ => rfl) rfl) ?_
    refine GSteps.cons (gm_skip rfl (fun _ => rfl) (fun _ => rfl) rfl) ?_
    refine GSteps.cons (gm_val (v := .bool false) rfl (fun _ => rfl) (fun _ => rfl) (fun γ w h => ex_pick (r := false) rfl) rfl) ?_
    exact GSteps.nil
  intro _ w16 hb16 _ _
  refine th_r ?_
  have A17 := A12.keep hb16.out
  have A18 := A13.keep hb16.out
  have A19 := A14.keep hb16.out
  have HB20 := below_then HB15 hb16.out
  refine wp_cond_false rfl ?_
  refine wp_skip ?_
  refine th_r ?_
  refine wp_seq ?_
  refine wp_seq (region_m (F := fun _ => ⟨List.toArray ((sv [.n 6 x1.val, .n 6 y1.val, .b false]) :: (sv [.n 6 x2.val, .n 6 y2.val, .b false]) :: (sv [.n 6 x3.val, .n 6 y3.val, .b false]) :: (.pointer (some ⟨(γ1 0), 0, none⟩)) :: (.pointer (some ⟨(γ1 1), 0, none⟩)) :: (.pointer (some ⟨(γ1 2), 0, none⟩)) :: (.bool false) :: (.pointer (some ⟨(γ1 0), 12, none⟩)) :: (.bool false) :: undef :: undef :: undef :: (.pointer (some ⟨(γ1 1), 12, none⟩)) :: (.bool false) :: undef :: undef :: undef :: (.pointer (some ⟨(γ1 0), 0, none⟩)) :: (nv 6 [x1.val]) :: (.pointer (some ⟨(γ1 1), 0, none⟩)) :: (nv 6 [x2.val]) :: (.bool false) :: (.bool false) :: undef :: undef :: undef :: undef :: undef :: undef :: (.bool false) :: undef :: undef :: undef :: (sv [.n 6 x3.val, .n 6 y3.val, .b false]) :: (.bool true) :: (.bool false) :: (.bool false) :: (.pointer (some ⟨(γ1 2), 12, none⟩)) :: (.bool false) :: (.bool false) :: undef :: undef :: undef :: undef :: undef :: undef :: undef :: undef :: undef :: undef :: undef :: undef :: undef :: undef :: undef :: undef :: undef :: undef :: undef :: undef :: undef :: undef :: undef :: undef :: undef :: undef :: undef :: undef :: undef :: undef :: undef :: undef :: undef :: undef :: []), []⟩) 0 (fun _ => 0) (fun _ => 0) (fun _ => 0) (fun _ => []) (fun _ => []) [33, 34, 35, 36, 37, 38, 39] (.inr ⟨rfl, by kernel_rfl⟩) (by kernel_rfl) rfl rfl rfl ?_ ?_)
  · refine GSteps.cons (gm_val (v := sv [.n 6 x3.val, .n 6 y3.val, .b false]) rfl (fun _ => rfl) (fun _ => rfl) (fun γ w h => ex_loads 0 3 (m := [.n 6 x3.val, .n 6 y3.val, .b false]) flG1 rfl rfl (A19.keep h.out) rfl rfl) rfl) ?_
    refine GSteps.cons (gm_call (v := .bool true) rfl (fun _ => rfl) (fun _ => rfl) (fun γ w => ex_call (vs := [sv [.n 6 x3.val, .n 6 y3.val, .b false]]) rfl Try.call9 rfl) (fun w h => hR _) rfl) ?_
    refine GSteps.cons (gm_val (v := .bool false) rfl (fun _ => rfl) (fun _ => rfl) (fun γ w h => ex_not (r := true) rfl) rfl) ?_
    refine GSteps.cons (gm_val (v := .bool false) rfl (fun _ => rfl) (fun _ => rfl) (fun γ w h => ex_move _) rfl) ?_
    refine GSteps.cons (gm_valg (fun γ => .pointer (some ⟨(γ1 2), 12, none⟩)) rfl (fun _ => rfl) (fun _ => rfl) (fun γ w h => ex_field faG1_2 rfl) rfl) ?_
    refine GSteps.cons (gm_val (v := .bool false) rfl (fun _ => rfl) (fun _ => rfl) (fun γ w h => ex_load1 2 (s := .b false) (v := .bool false) sgBool rfl (A19.keep h.out) rfl rfl rfl) rfl) ?_
    refine GSteps.cons (gm_val (v := .bool false) rfl (fun _ => rfl) (fun _ => rfl) (fun γ w h => ex_pick (r := false) rfl) rfl) ?_
    exact GSteps.nil
  intro _ w21 hb21 _ _
  refine th_r ?_
  have A22 := A17.keep hb21.out
  have A23 := A18.keep hb21.out
  have A24 := A19.keep hb21.out
  have HB25 := below_then HB20 hb21.out
  refine wp_cond_false rfl ?_
  refine wp_skip ?_
  refine th_r ?_
  refine wp_seq ?_
  refine wp_seq (region_m (F := fun _ => ⟨List.toArray ((sv [.n 6 x1.val, .n 6 y1.val, .b false]) :: (sv [.n 6 x2.val, .n 6 y2.val, .b false]) :: (sv [.n 6 x3.val, .n 6 y3.val, .b false]) :: (.pointer (some ⟨(γ1 0), 0, none⟩)) :: (.pointer (some ⟨(γ1 1), 0, none⟩)) :: (.pointer (some ⟨(γ1 2), 0, none⟩)) :: (.bool false) :: (.pointer (some ⟨(γ1 0), 12, none⟩)) :: (.bool false) :: undef :: undef :: undef :: (.pointer (some ⟨(γ1 1), 12, none⟩)) :: (.bool false) :: undef :: undef :: undef :: (.pointer (some ⟨(γ1 0), 0, none⟩)) :: (nv 6 [x1.val]) :: (.pointer (some ⟨(γ1 1), 0, none⟩)) :: (nv 6 [x2.val]) :: (.bool false) :: (.bool false) :: undef :: undef :: undef :: undef :: undef :: undef :: (.bool false) :: undef :: undef :: undef :: (sv [.n 6 x3.val, .n 6 y3.val, .b false]) :: (.bool true) :: (.bool false) :: (.bool false) :: (.pointer (some ⟨(γ1 2), 12, none⟩)) :: (.bool false) :: (.bool false) :: (.pointer (some ⟨(γ1 0), 0, none⟩)) :: (nv 6 [x1.val]) :: (.pointer (some ⟨(γ1 1), 0, none⟩)) :: (nv 6 [x2.val]) :: (.bool false) :: undef :: undef :: undef :: undef :: undef :: undef :: undef :: undef :: undef :: undef :: undef :: undef :: undef :: undef :: undef :: undef :: undef :: undef :: undef :: undef :: undef :: undef :: undef :: undef :: undef :: undef :: undef :: undef :: undef :: []), []⟩) 0 (fun _ => 0) (fun _ => 0) (fun _ => 0) (fun _ => []) (fun _ => []) [40, 41, 42, 43, 44] (.inr ⟨rfl, by kernel_rfl⟩) (by kernel_rfl) rfl rfl rfl ?_ ?_)
  · refine GSteps.cons (gm_valg (fun γ => .pointer (some ⟨(γ1 0), 0, none⟩)) rfl (fun _ => rfl) (fun _ => rfl) (fun γ w h => ex_field faG1_0 rfl) rfl) ?_
    refine GSteps.cons (gm_val (v := nv 6 [x1.val]) rfl (fun _ => rfl) (fun _ => rfl) (fun γ w h => ex_loadsn (K := 6) 0 1 (m := [x1.val]) flFp rfl rfl (A22.keep h.out) rfl rfl) rfl) ?_
    refine GSteps.cons (gm_valg (fun γ => .pointer (some ⟨(γ1 1), 0, none⟩)) rfl (fun _ => rfl) (fun _ => rfl) (fun γ w h => ex_field faG1_0 rfl) rfl) ?_
    refine GSteps.cons (gm_val (v := nv 6 [x2.val]) rfl (fun _ => rfl) (fun _ => rfl) (fun γ w h => ex_loadsn (K := 6) 0 1 (m := [x2.val]) flFp rfl rfl (A23.keep h.out) rfl rfl) rfl) ?_
    refine GSteps.cons (gm_val (v := .bool false) rfl (fun _ => rfl) (fun _ => rfl) (fun γ w h => ex_eqz x1 x2 rfl rfl rfl rfl false ⟨fun e => Bool.noConfusion e, fun e => absurd e hx⟩) rfl) ?_
    exact GSteps.nil
  intro _ w26 hb26 _ _
  refine th_r ?_
  have A27 := A22.keep hb26.out
  have A28 := A23.keep hb26.out
  have A29 := A24.keep hb26.out
  have HB30 := below_then HB25 hb26.out
  refine wp_cond_false rfl ?_
  refine wp_skip ?_
  refine th_r ?_
  refine wp_seq (region_m (F := fun _ => ⟨List.toArray ((sv [.n 6 x1.val, .n 6 y1.val, .b false]) :: (sv [.n 6 x2.val, .n 6 y2.val, .b false]) :: (sv [.n 6 x3.val, .n 6 y3.val, .b false]) :: (.pointer (some ⟨(γ1 0), 0, none⟩)) :: (.pointer (some ⟨(γ1 1), 0, none⟩)) :: (.pointer (some ⟨(γ1 2), 0, none⟩)) :: (.bool true) :: (.pointer (some ⟨(γ1 0), 12, none⟩)) :: (.bool false) :: undef :: undef :: undef :: (.pointer (some ⟨(γ1 1), 12, none⟩)) :: (.bool false) :: undef :: undef :: undef :: (.pointer (some ⟨(γ1 0), 0, none⟩)) :: (nv 6 [x1.val]) :: (.pointer (some ⟨(γ1 1), 0, none⟩)) :: (nv 6 [x2.val]) :: (.bool false) :: (.bool false) :: undef :: undef :: undef :: undef :: undef :: undef :: (.bool false) :: undef :: undef :: undef :: (sv [.n 6 x3.val, .n 6 y3.val, .b false]) :: (.bool true) :: (.bool false) :: (.bool false) :: (.pointer (some ⟨(γ1 2), 12, none⟩)) :: (.bool false) :: (.bool false) :: (.pointer (some ⟨(γ1 0), 0, none⟩)) :: (nv 6 [x1.val]) :: (.pointer (some ⟨(γ1 1), 0, none⟩)) :: (nv 6 [x2.val]) :: (.bool false) :: undef :: undef :: undef :: undef :: undef :: undef :: undef :: undef :: undef :: undef :: undef :: undef :: undef :: undef :: undef :: (sv [.n 6 x1.val, .n 6 y1.val, .b false]) :: (sv [.n 6 x2.val, .n 6 y2.val, .b false]) :: (sv [.n 6 x3.val, .n 6 y3.val, .b false]) :: (.pointer (some ⟨(γ1 1), 0, none⟩)) :: (nv 6 [x2.val]) :: (.pointer (some ⟨(γ1 0), 0, none⟩)) :: (nv 6 [x1.val]) :: (nv 6 [z1.val]) :: (.pointer (some ⟨(γ1 1), 6, none⟩)) :: (nv 6 [y2.val]) :: (.pointer (some ⟨(γ1 0), 6, none⟩)) :: (nv 6 [y1.val]) :: (nv 6 [z2.val]) :: (.bool true) :: []), []⟩) 0 (fun _ => 0) (fun _ => 0) (fun _ => 0) (fun _ => []) (fun _ => []) [60, 61, 62, 63, 64, 65, 66, 67, 68, 69, 70, 71, 72, 73, 6] (.inl ⟨rfl, by kernel_rfl⟩) (by kernel_rfl) rfl rfl rfl ?_ ?_)
  · refine GSteps.cons (gm_val (v := sv [.n 6 x1.val, .n 6 y1.val, .b false]) rfl (fun _ => rfl) (fun _ => rfl) (fun γ w h => ex_loads 0 3 (m := [.n 6 x1.val, .n 6 y1.val, .b false]) flG1 rfl rfl (A27.keep h.out) rfl rfl) rfl) ?_
    refine GSteps.cons (gm_val (v := sv [.n 6 x2.val, .n 6 y2.val, .b false]) rfl (fun _ => rfl) (fun _ => rfl) (fun γ w h => ex_loads 0 3 (m := [.n 6 x2.val, .n 6 y2.val, .b false]) flG1 rfl rfl (A28.keep h.out) rfl rfl) rfl) ?_
    refine GSteps.cons (gm_val (v := sv [.n 6 x3.val, .n 6 y3.val, .b false]) rfl (fun _ => rfl) (fun _ => rfl) (fun γ w h => ex_loads 0 3 (m := [.n 6 x3.val, .n 6 y3.val, .b false]) flG1 rfl rfl (A29.keep h.out) rfl rfl) rfl) ?_
    refine GSteps.cons (gm_valg (fun γ => .pointer (some ⟨(γ1 1), 0, none⟩)) rfl (fun _ => rfl) (fun _ => rfl) (fun γ w h => ex_field faG1_0 rfl) rfl) ?_
    refine GSteps.cons (gm_val (v := nv 6 [x2.val]) rfl (fun _ => rfl) (fun _ => rfl) (fun γ w h => ex_loadsn (K := 6) 0 1 (m := [x2.val]) flFp rfl rfl (A28.keep h.out) rfl rfl) rfl) ?_
    refine GSteps.cons (gm_valg (fun γ => .pointer (some ⟨(γ1 0), 0, none⟩)) rfl (fun _ => rfl) (fun _ => rfl) (fun γ w h => ex_field faG1_0 rfl) rfl) ?_
    refine GSteps.cons (gm_val (v := nv 6 [x1.val]) rfl (fun _ => rfl) (fun _ => rfl) (fun γ w h => ex_loadsn (K := 6) 0 1 (m := [x1.val]) flFp rfl rfl (A27.keep h.out) rfl rfl) rfl) ?_
    refine GSteps.cons (gm_call (v := nv 6 [z1.val]) rfl (fun _ => rfl) (fun _ => rfl) (fun γ w => ex_call (vs := [nv 6 [x2.val], nv 6 [x1.val]]) rfl Try.call40 rfl) (fun w h => r4Sub_e x2 x1 z1 rfl rfl ez1 _) rfl) ?_
    refine GSteps.cons (gm_valg (fun γ => .pointer (some ⟨(γ1 1), 6, none⟩)) rfl (fun _ => rfl) (fun _ => rfl) (fun γ w h => ex_field faG1_1 rfl) rfl) ?_
    refine GSteps.cons (gm_val (v := nv 6 [y2.val]) rfl (fun _ => rfl) (fun _ => rfl) (fun γ w h => ex_loadsn (K := 6) 1 1 (m := [y2.val]) flFp rfl rfl (A28.keep h.out) rfl rfl) rfl) ?_
    refine GSteps.cons (gm_valg (fun γ => .pointer (some ⟨(γ1 0), 6, none⟩)) rfl (fun _ => rfl) (fun _ => rfl) (fun γ w h => ex_field faG1_1 rfl) rfl) ?_
    refine GSteps.cons (gm_val (v := nv 6 [y1.val]) rfl (fun _ => rfl) (fun _ => rfl) (fun γ w h => ex_loadsn (K := 6) 1 1 (m := [y1.val]) flFp rfl rfl (A27.keep h.out) rfl rfl) rfl) ?_
    refine GSteps.cons (gm_call (v := nv 6 [z2.val]) rfl (fun _ => rfl) (fun _ => rfl) (fun γ w => ex_call (vs := [nv 6 [y2.val], nv 6 [y1.val]]) rfl Try.call40 rfl) (fun w h => r4Sub_e y2 y1 z2 rfl rfl ez2 _) rfl) ?_
    refine GSteps.cons (gm_call (v := .bool true) rfl (fun _ => rfl) (fun _ => rfl) (fun γ w => ex_call (vs := [sv [.n 6 x1.val, .n 6 y1.val, .b false], sv [.n 6 x2.val, .n 6 y2.val, .b false], sv [.n 6 x3.val, .n 6 y3.val, .b false], nv 6 [z1.val], nv 6 [z2.val]]) rfl Try.call38 rfl) (fun w h => r8chord_v x1 y1 x2 y2 x3 y3 z1 z2 (by rw [ez1, ez2]; exact h1) (by rw [ez1, ez2]; exact h2) _) rfl) ?_
    refine GSteps.cons (gm_val (v := .bool true) rfl (fun _ => rfl) (fun _ => rfl) (fun γ w h => ex_assign _) rfl) ?_
    exact GSteps.nil
  intro _ w31 hb31 _ _
  refine th_r ?_
  have A32 := A27.keep hb31.out
  have A33 := A28.keep hb31.out
  have A34 := A29.keep hb31.out
  have HB35 := below_then HB30 hb31.out
  exact wp_ret (bodyPost_ret (ret1 Try.results18 (res_tmp rfl)) rfl ⟨rfl, HB35⟩)

set_option maxRecDepth 20000 in
set_option maxHeartbeats 4000000 in
theorem r8Sum_tang (x y x3 y3 : Zp) (hy : y ≠ -y) (h1 : (x3 + (x + x)) * ((y + y) * (y + y)) = (3 * (x * x)) * (3 * (x * x))) (h2 : (y3 + y) * (y + y) = (3 * (x * x)) * (x - x3)) (hR : ∀ w, Calls Try.prog 9 #[sv [.n 6 x3.val, .n 6 y3.val, .b false]] w (Is (.bool true) w)) (w : World) :
    Calls Try.prog 18 #[sv [.n 6 x.val, .n 6 y.val, .b false], sv [.n 6 x.val, .n 6 y.val, .b false], sv [.n 6 x3.val, .n 6 y3.val, .b false]] w (Is (.bool true) w) := by
  obtain ⟨z1, ez1⟩ : ∃ q_ : Zp, q_ = -y := ⟨_, rfl⟩
  obtain ⟨z2, ez2⟩ : ∃ q_ : Zp, q_ = y + y := ⟨_, rfl⟩
  obtain ⟨z3, ez3⟩ : ∃ q_ : Zp, q_ = x * x := ⟨_, rfl⟩
  obtain ⟨z4, ez4⟩ : ∃ q_ : Zp, q_ = 3 * z3 := ⟨_, rfl⟩
  go_enter Try.func18, Try.ntmps18
  refine wp_seq (region_m (F := fun γ => ⟨List.toArray ((sv [.n 6 x.val, .n 6 y.val, .b false]) :: (sv [.n 6 x.val, .n 6 y.val, .b false]) :: (sv [.n 6 x3.val, .n 6 y3.val, .b false]) :: (.pointer (some ⟨γ 0, 0, none⟩)) :: (.pointer (some ⟨γ 1, 0, none⟩)) :: (.pointer (some ⟨γ 2, 0, none⟩)) :: (.bool false) :: undef :: undef :: undef :: undef :: undef :: undef :: undef :: undef :: undef :: undef :: undef :: undef :: undef :: undef :: undef :: undef :: undef :: undef :: undef :: undef :: undef :: undef :: undef :: undef :: undef :: undef :: undef :: undef :: undef :: undef :: undef :: undef :: undef :: undef :: undef :: undef :: undef :: undef :: undef :: undef :: undef :: undef :: undef :: undef :: undef :: undef :: undef :: undef :: undef :: undef :: undef :: undef :: undef :: undef :: undef :: undef :: undef :: undef :: undef :: undef :: undef :: undef :: undef :: undef :: undef :: undef :: undef :: []), []⟩) 3 (fun j_ => match j_ with | 0 => 26 | 1 => 26 | _ => 26) (fun j_ => match j_ with | 0 => 0 | 1 => 1 | _ => 2) (fun j_ => match j_ with | 0 => 0 | 1 => 1 | _ => 2) (fun j_ => match j_ with | 0 => segs [.n 6 x.val, .n 6 y.val, .b false] | 1 => segs [.n 6 x.val, .n 6 y.val, .b false] | _ => segs [.n 6 x3.val, .n 6 y3.val, .b false]) (fun j_ => match j_ with | 0 => segs [.n 6 x.val, .n 6 y.val, .b false] | 1 => segs [.n 6 x.val, .n 6 y.val, .b false] | _ => segs [.n 6 x3.val, .n 6 y3.val, .b false]) [3, 4, 5, 6] (.inr ⟨rfl, by kernel_rfl⟩) (by kernel_rfl) rfl rfl rfl ?_ ?_)
  · refine GSteps.cons (gm_box 0 rfl (fun _ => rfl) (fun _ _ => rfl) (fun γ w h => ex_boxs (l := [.n 6 x.val, .n 6 y.val, .b false]) rfl) rfl rfl rfl) ?_
    refine GSteps.cons (gm_box 1 rfl (fun _ => rfl) (fun _ _ => rfl) (fun γ w h => ex_boxs (l := [.n 6 x.val, .n 6 y.val, .b false]) rfl) rfl rfl rfl) ?_
    refine GSteps.cons (gm_box 2 rfl (fun _ => rfl) (fun _ _ => rfl) (fun γ w h => ex_boxs (l := [.n 6 x3.val, .n 6 y3.val, .b false]) rfl) rfl rfl rfl) ?_
    refine GSteps.cons (gm_val (v := .bool false) rfl (fun _ => rfl) (fun _ => rfl) (fun γ w h => ex_assign _) rfl) ?_
    exact GSteps.nil
  intro γ1 w1 hb1 hB1 hn1
  refine th_r ?_
  have A2 : SB 26 w1 (γ1 0) [.n 6 x.val, .n 6 y.val, .b false] := (hB1 0 (by decide)).2
  have le2 := (hB1 0 (by decide)).1
  have A3 : SB 26 w1 (γ1 1) [.n 6 x.val, .n 6 y.val, .b false] := (hB1 1 (by decide)).2
  have le3 := (hB1 1 (by decide)).1
  have A4 : SB 26 w1 (γ1 2) [.n 6 x3.val, .n 6 y3.val, .b false] := (hB1 2 (by decide)).2
  have le4 := (hB1 2 (by decide)).1
  have HB5 := below_then (Below.refl w.heap.size w) hb1.out
  refine wp_seq ?_
  refine wp_seq (region_m (F := fun _ => ⟨List.toArray ((sv [.n 6 x.val, .n 6 y.val, .b false]) :: (sv [.n 6 x.val, .n 6 y.val, .b false]) :: (sv [.n 6 x3.val, .n 6 y3.val, .b false]) :: (.pointer (some ⟨(γ1 0), 0, none⟩)) :: (.pointer (some ⟨(γ1 1), 0, none⟩)) :: (.pointer (some ⟨(γ1 2), 0, none⟩)) :: (.bool false) :: (.pointer (some ⟨(γ1 0), 12, none⟩)) :: (.bool false) :: undef :: undef :: undef :: undef :: undef :: undef :: undef :: undef :: undef :: undef :: undef :: undef :: undef :: undef :: undef :: undef :: undef :: undef :: undef :: undef :: undef :: undef :: undef :: undef :: undef :: undef :: undef :: undef :: undef :: undef :: undef :: undef :: undef :: undef :: undef :: undef :: undef :: undef :: undef :: undef :: undef :: undef :: undef :: undef :: undef :: undef :: undef :: undef :: undef :: undef :: undef :: undef :: undef :: undef :: undef :: undef :: undef :: undef :: undef :: undef :: undef :: undef :: undef :: undef :: undef :: []), []⟩) 0 (fun _ => 0) (fun _ => 0) (fun _ => 0) (fun _ => []) (fun _ => []) [7, 8] (.inr ⟨rfl, by kernel_rfl⟩) (by kernel_rfl) rfl rfl rfl ?_ ?_)
  · refine GSteps.cons (gm_valg (fun γ => .pointer (some ⟨(γ1 0), 12, none⟩)) rfl (fun _ => rfl) (fun _ => rfl) (fun γ w h => ex_field faG1_2 rfl) rfl) ?_
    refine GSteps.cons (gm_val (v := .bool false) rfl (fun _ => rfl) (fun _ => rfl) (fun γ w h => ex_load1 2 (s := .b false) (v := .bool false) sgBool rfl (A2.keep h.out) rfl rfl rfl) rfl) ?_
    exact GSteps.nil
  intro _ w6 hb6 _ _
  refine th_r ?_
  have A7 := A2.keep hb6.out
  have A8 := A3.keep hb6.out
  have A9 := A4.keep hb6.out
  have HB10 := below_then HB5 hb6.out
  refine wp_cond_false rfl ?_
  refine wp_skip ?_
  refine th_r ?_
  refine wp_seq ?_
  refine wp_seq (region_m (F := fun _ => ⟨List.toArray ((sv [.n 6 x.val, .n 6 y.val, .b false]) :: (sv [.n 6 x.val, .n 6 y.val, .b false]) :: (sv [.n 6 x3.val, .n 6 y3.val, .b false]) :: (.pointer (some ⟨(γ1 0), 0, none⟩)) :: (.pointer (some ⟨(γ1 1), 0, none⟩)) :: (.pointer (some ⟨(γ1 2), 0, none⟩)) :: (.bool false) :: (.pointer (some ⟨(γ1 0), 12, none⟩)) :: (.bool false) :: undef :: undef :: undef :: (.pointer (some ⟨(γ1 1), 12, none⟩)) :: (.bool false) :: undef :: undef :: undef :: undef :: undef :: undef :: undef :: undef :: undef :: undef :: undef :: undef :: undef :: undef :: undef :: undef :: undef :: undef :: undef :: undef :: undef :: undef :: undef :: undef :: undef :: undef :: undef :: undef :: undef :: undef :: undef :: undef :: undef :: undef :: undef :: undef :: undef :: undef :: undef :: undef :: undef :: undef :: undef :: undef :: undef :: undef :: undef :: undef :: undef :: undef :: undef :: undef :: undef :: undef :: undef :: undef :: undef :: undef :: undef :: undef :: []), []⟩) 0 (fun _ => 0) (fun _ => 0) (fun _ => 0) (fun _ => []) (fun _ => []) [12, 13] (.inr ⟨rfl, by kernel_rfl⟩) (by kernel_rfl) rfl rfl rfl ?_ ?_)
  · refine GSteps.cons (gm_valg (fun γ => .pointer (some ⟨(γ1 1), 12, none⟩)) rfl (fun _ => rfl) (fun _ => rfl) (fun γ w h => ex_field faG1_2 rfl) rfl) ?_
    refine GSteps.cons (gm_val (v := .bool false) rfl (fun _ => rfl) (fun _ => rfl) (fun γ w h => ex_load1 2 (s := .b false) (v := .bool false) sgBool rfl (A8.keep h.out) rfl rfl rfl) rfl) ?_
    exact GSteps.nil
  intro _ w11 hb11 _ _
  refine th_r ?_
  have A12 := A7.keep hb11.out
  have A13 := A8.keep hb11.out
  have A14 := A9.keep hb11.out
  have HB15 := below_then HB10 hb11.out
  refine wp_cond_false rfl ?_
  refine wp_skip ?_
  refine th_r ?_
  refine wp_seq ?_
  refine wp_seq (region_m (F := fun _ => ⟨List.toArray ((sv [.n 6 x.val, .n 6 y.val, .b false]) :: (sv [.n 6 x.val, .n 6 y.val, .b false]) :: (sv [.n 6 x3.val, .n 6 y3.val, .b false]) :: (.pointer (some ⟨(γ1 0), 0, none⟩)) :: (.pointer (some ⟨(γ1 1), 0, none⟩)) :: (.pointer (some ⟨(γ1 2), 0, none⟩)) :: (.bool false) :: (.pointer (some ⟨(γ1 0), 12, none⟩)) :: (.bool false) :: undef :: undef :: undef :: (.pointer (some ⟨(γ1 1), 12, none⟩)) :: (.bool false) :: undef :: undef :: undef :: (.pointer (some ⟨(γ1 0), 0, none⟩)) :: (nv 6 [x.val]) :: (.pointer (some ⟨(γ1 1), 0, none⟩)) :: (nv 6 [x.val]) :: (.bool true) :: (.bool true) :: (.pointer (some ⟨(γ1 0), 6, none⟩)) :: (nv 6 [y.val]) :: (.pointer (some ⟨(γ1 1), 6, none⟩)) :: (nv 6 [y.val]) :: (nv 6 [z1.val]) :: (.bool false) :: (.bool false) :: undef :: undef :: undef :: undef :: undef :: undef :: undef :: undef :: undef :: undef :: undef :: undef :: undef :: undef :: undef :: undef :: undef :: undef :: undef :: undef :: undef :: undef :: undef :: undef :: undef :: undef :: undef :: undef :: undef :: undef :: undef :: undef :: undef :: undef :: undef :: undef :: undef :: undef :: undef :: undef :: undef :: undef :: undef :: undef :: []), []⟩) 0 (fun _ => 0) (fun _ => 0) (fun _ => 0) (fun _ => []) (fun _ => []) [17, 18, 19, 20, 21, 22, 23, 24, 25, 26, 27, 28, 29] (.inl ⟨rfl, by kernel_rfl⟩) (by kernel_rfl) rfl rfl rfl ?_ ?_)
  · refine GSteps.cons (gm_valg (fun γ => .pointer (some ⟨(γ1 0), 0, none⟩)) rfl (fun _ => rfl) (fun _ => rfl) (fun γ w h => ex_field faG1_0 rfl) rfl) ?_
    refine GSteps.cons (gm_val (v := nv 6 [x.val]) rfl (fun _ => rfl) (fun _ => rfl) (fun γ w h => ex_loadsn (K := 6) 0 1 (m := [x.val]) flFp rfl rfl (A12.keep h.out) rfl rfl) rfl) ?_
    refine GSteps.cons (gm_valg (fun γ => .pointer (some ⟨(γ1 1), 0, none⟩)) rfl (fun _ => rfl) (fun _ => rfl) (fun γ w h => ex_field faG1_0 rfl) rfl) ?_
    refine GSteps.cons (gm_val (v := nv 6 [x.val]) rfl (fun _ => rfl) (fun _ => rfl) (fun γ w h => ex_loadsn (K := 6) 0 1 (m := [x.val]) flFp rfl rfl (A13.keep h.out) rfl rfl) rfl) ?_
    refine GSteps.cons (gm_val (v := .bool true) rfl (fun _ => rfl) (fun _ => rfl) (fun γ w h => ex_eqt (K := 6) (l := [x.val]) eqFp rfl rfl rfl rfl) rfl) ?_
    refine GSteps.cons (gm_val (v := .bool true) rfl (fun _ => rfl) (fun _ => rfl) (fun γ w h => ex_move _) rfl) ?_
    refine GSteps.cons (gm_valg (fun γ => .pointer (some ⟨(γ1 0), 6, none⟩)) rfl (fun _ => rfl) (fun _ => rfl) (fun γ w h => ex_field faG1_1 rfl) rfl) ?_
    refine GSteps.cons (gm_val (v := nv 6 [y.val]) rfl (fun _ => rfl) (fun _ => rfl) (fun γ w h => ex_loadsn (K := 6) 1 1 (m := [y.val]) flFp rfl rfl (A12.keep h.out) rfl rfl) rfl) ?_
    refine GSteps.cons (gm_valg (fun γ => .pointer (some ⟨(γ1 1), 6, none⟩)) rfl (fun _ => rfl) (fun _ => rfl) (fun γ w h => ex_field faG1_1 rfl) rfl) ?_
    refine GSteps.cons (gm_val (v := nv 6 [y.val]) rfl (fun _ => rfl) (fun _ => rfl) (fun γ w h => ex_loadsn (K := 6) 1 1 (m := [y.val]) flFp rfl rfl (A13.keep h.out) rfl rfl) rfl) ?_
    refine GSteps.cons (gm_call (v := nv 6 [z1.val]) rfl (fun _ => rfl) (fun _ => rfl) (fun γ w => ex_call (vs := [nv 6 [y.val]]) rfl Try.call37 rfl) (fun w h => r4Neg_e y z1 rfl ez1 _) rfl) ?_
    refine GSteps.cons (gm_val (v := .bool false) rfl (fun _ => rfl) (fun _ => rfl) (fun γ w h => ex_eqz y z1 rfl rfl rfl rfl false ⟨fun e => Bool.noConfusion e, fun e => absurd (e.trans ez1) hy⟩) rfl) ?_
    refine GSteps.cons (gm_val (v := .bool false) rfl (fun _ => rfl) (fun _ => rfl) (fun γ w h => ex_pick (r := true) rfl) rfl) ?_
    exact GSteps.nil
  intro _ w16 hb16 _ _
  refine th_r ?_
  have A17 := A12.keep hb16.out
  have A18 := A13.keep hb16.out
  have A19 := A14.keep hb16.out
  have HB20 := below_then HB15 hb16.out
  refine wp_cond_false rfl ?_
  refine wp_skip ?_
  refine th_r ?_
  refine wp_seq ?_
  refine wp_seq (region_m (F := fun _ => ⟨List.toArray ((sv [.n 6 x.val, .n 6 y.val, .b false]) :: (sv [.n 6 x.val, .n 6 y.val, .b false]) :: (sv [.n 6 x3.val, .n 6 y3.val, .b false]) :: (.pointer (some ⟨(γ1 0), 0, none⟩)) :: (.pointer (some ⟨(γ1 1), 0, none⟩)) :: (.pointer (some ⟨(γ1 2), 0, none⟩)) :: (.bool false) :: (.pointer (some ⟨(γ1 0), 12, none⟩)) :: (.bool false) :: undef :: undef :: undef :: (.pointer (some ⟨(γ1 1), 12, none⟩)) :: (.bool false) :: undef :: undef :: undef :: (.pointer (some ⟨(γ1 0), 0, none⟩)) :: (nv 6 [x.val]) :: (.pointer (some ⟨(γ1 1), 0, none⟩)) :: (nv 6 [x.val]) :: (.bool true) :: (.bool true) :: (.pointer (some ⟨(γ1 0), 6, none⟩)) :: (nv 6 [y.val]) :: (.pointer (some ⟨(γ1 1), 6, none⟩)) :: (nv 6 [y.val]) :: (nv 6 [z1.val]) :: (.bool false) :: (.bool false) :: undef :: undef :: undef :: (sv [.n 6 x3.val, .n 6 y3.val, .b false]) :: (.bool true) :: (.bool false) :: (.bool false) :: (.pointer (some ⟨(γ1 2), 12, none⟩)) :: (.bool false) :: (.bool false) :: undef :: undef :: undef :: undef :: undef :: undef :: undef :: undef :: undef :: undef :: undef :: undef :: undef :: undef :: undef :: undef :: undef :: undef :: undef :: undef :: undef :: undef :: undef :: undef :: undef :: undef :: undef :: undef :: undef :: undef :: undef :: undef :: undef :: undef :: []), []⟩) 0 (fun _ => 0) (fun _ => 0) (fun _ => 0) (fun _ => []) (fun _ => []) [33, 34, 35, 36, 37, 38, 39] (.inr ⟨rfl, by kernel_rfl⟩) (by kernel_rfl) rfl rfl rfl ?_ ?_)
  · refine GSteps.cons (gm_val (v := sv [.n 6 x3.val, .n 6 y3.val, .b false]) rfl (fun _ => rfl) (fun _ => rfl) (fun γ w h => ex_loads 0 3 (m := [.n 6 x3.val, .n 6 y3.val, .b false]) flG1 rfl rfl (A19.keep h.out) rfl rfl) rfl) ?_
    refine GSteps.cons (gm_call (v := .bool true) rfl (fun _ => rfl) (fun _ => rfl) (fun γ w => ex_call (vs := [sv [.n 6 x3.val, .n 6 y3.val, .b false]]) rfl Try.call9 rfl) (fun w h => hR _) rfl) ?_
    refine GSteps.cons (gm_val (v := .bool false) rfl (fun _ => rfl) (fun _ => rfl) (fun γ w h => ex_not (r := true) rfl) rfl) ?_
    refine GSteps.cons (gm_val (v := .bool false) rfl (fun _ => rfl) (fun _ => rfl) (fun γ w h => ex_move _) rfl) ?_
    refine GSteps.cons (gm_valg (fun γ => .pointer (some ⟨(γ1 2), 12, none⟩)) rfl (fun _ => rfl) (fun _ => rfl) (fun γ w h => ex_field faG1_2 rfl) rfl) ?_
    refine GSteps.cons (gm_val (v := .bool false) rfl (fun _ => rfl) (fun _ => rfl) (fun γ w h => ex_load1 2 (s := .b false) (v := .bool false) sgBool rfl (A19.keep h.out) rfl rfl rfl) rfl) ?_
    refine GSteps.cons (gm_val (v := .bool false) rfl (fun _ => rfl) (fun _ => rfl) (fun γ w h => ex_pick (r := false) rfl) rfl) ?_
    exact GSteps.nil
  intro _ w21 hb21 _ _
  refine th_r ?_
  have A22 := A17.keep hb21.out
  have A23 := A18.keep hb21.out
  have A24 := A19.keep hb21.out
  have HB25 := below_then HB20 hb21.out
  refine wp_cond_false rfl ?_
  refine wp_skip ?_
  refine th_r ?_
  refine wp_seq ?_
  refine wp_seq (region_m (F := fun _ => ⟨List.toArray ((sv [.n 6 x.val, .n 6 y.val, .b false]) :: (sv [.n 6 x.val, .n 6 y.val, .b false]) :: (sv [.n 6 x3.val, .n 6 y3.val, .b false]) :: (.pointer (some ⟨(γ1 0), 0, none⟩)) :: (.pointer (some ⟨(γ1 1), 0, none⟩)) :: (.pointer (some ⟨(γ1 2), 0, none⟩)) :: (.bool false) :: (.pointer (some ⟨(γ1 0), 12, none⟩)) :: (.bool false) :: undef :: undef :: undef :: (.pointer (some ⟨(γ1 1), 12, none⟩)) :: (.bool false) :: undef :: undef :: undef :: (.pointer (some ⟨(γ1 0), 0, none⟩)) :: (nv 6 [x.val]) :: (.pointer (some ⟨(γ1 1), 0, none⟩)) :: (nv 6 [x.val]) :: (.bool true) :: (.bool true) :: (.pointer (some ⟨(γ1 0), 6, none⟩)) :: (nv 6 [y.val]) :: (.pointer (some ⟨(γ1 1), 6, none⟩)) :: (nv 6 [y.val]) :: (nv 6 [z1.val]) :: (.bool false) :: (.bool false) :: undef :: undef :: undef :: (sv [.n 6 x3.val, .n 6 y3.val, .b false]) :: (.bool true) :: (.bool false) :: (.bool false) :: (.pointer (some ⟨(γ1 2), 12, none⟩)) :: (.bool false) :: (.bool false) :: (.pointer (some ⟨(γ1 0), 0, none⟩)) :: (nv 6 [x.val]) :: (.pointer (some ⟨(γ1 1), 0, none⟩)) :: (nv 6 [x.val]) :: (.bool true) :: undef :: undef :: undef :: undef :: undef :: undef :: undef :: undef :: undef :: undef :: undef :: undef :: undef :: undef :: undef :: undef :: undef :: undef :: undef :: undef :: undef :: undef :: undef :: undef :: undef :: undef :: undef :: undef :: undef :: []), []⟩) 0 (fun _ => 0) (fun _ => 0) (fun _ => 0) (fun _ => []) (fun _ => []) [40, 41, 42, 43, 44] (.inr ⟨rfl, by kernel_rfl⟩) (by kernel_rfl) rfl rfl rfl ?_ ?_)
  · refine GSteps.cons (gm_valg (fun γ => .pointer (some ⟨(γ1 0), 0, none⟩)) rfl (fun _ => rfl) (fun _ => rfl) (fun γ w h => ex_field faG1_0 rfl) rfl) ?_
    refine GSteps.cons (gm_val (v := nv 6 [x.val]) rfl (fun _ => rfl) (fun _ => rfl) (fun γ w h => ex_loadsn (K := 6) 0 1 (m := [x.val]) flFp rfl rfl (A22.keep h.out) rfl rfl) rfl) ?_
    refine GSteps.cons (gm_valg (fun γ => .pointer (some ⟨(γ1 1), 0, none⟩)) rfl (fun _ => rfl) (fun _ => rfl) (fun γ w h => ex_field faG1_0 rfl) rfl) ?_
    refine GSteps.cons (gm_val (v := nv 6 [x.val]) rfl (fun _ => rfl) (fun _ => rfl) (fun γ w h => ex_loadsn (K := 6) 0 1 (m := [x.val]) flFp rfl rfl (A23.keep h.out) rfl rfl) rfl) ?_
    refine GSteps.cons (gm_val (v := .bool true) rfl (fun _ => rfl) (fun _ => rfl) (fun γ w h => ex_eqt (K := 6) (l := [x.val]) eqFp rfl rfl rfl rfl) rfl) ?_
    exact GSteps.nil
  intro _ w26 hb26 _ _
  refine th_r ?_
  have A27 := A22.keep hb26.out
  have A28 := A23.keep hb26.out
  have A29 := A24.keep hb26.out
  have HB30 := below_then HB25 hb26.out
  refine wp_cond_true rfl ?_
  refine wp_seq (region_m (F := fun _ => ⟨List.toArray ((sv [.n 6 x.val, .n 6 y.val, .b false]) :: (sv [.n 6 x.val, .n 6 y.val, .b false]) :: (sv [.n 6 x3.val, .n 6 y3.val, .b false]) :: (.pointer (some ⟨(γ1 0), 0, none⟩)) :: (.pointer (some ⟨(γ1 1), 0, none⟩)) :: (.pointer (some ⟨(γ1 2), 0, none⟩)) :: (.bool true) :: (.pointer (some ⟨(γ1 0), 12, none⟩)) :: (.bool false) :: undef :: undef :: undef :: (.pointer (some ⟨(γ1 1), 12, none⟩)) :: (.bool false) :: undef :: undef :: undef :: (.pointer (some ⟨(γ1 0), 0, none⟩)) :: (nv 6 [x.val]) :: (.pointer (some ⟨(γ1 1), 0, none⟩)) :: (nv 6 [x.val]) :: (.bool true) :: (.bool true) :: (.pointer (some ⟨(γ1 0), 6, none⟩)) :: (nv 6 [y.val]) :: (.pointer (some ⟨(γ1 1), 6, none⟩)) :: (nv 6 [y.val]) :: (nv 6 [z1.val]) :: (.bool false) :: (.bool false) :: undef :: undef :: undef :: (sv [.n 6 x3.val, .n 6 y3.val, .b false]) :: (.bool true) :: (.bool false) :: (.bool false) :: (.pointer (some ⟨(γ1 2), 12, none⟩)) :: (.bool false) :: (.bool false) :: (.pointer (some ⟨(γ1 0), 0, none⟩)) :: (nv 6 [x.val]) :: (.pointer (some ⟨(γ1 1), 0, none⟩)) :: (nv 6 [x.val]) :: (.bool true) :: (sv [.n 6 x.val, .n 6 y.val, .b false]) :: (sv [.n 6 x.val, .n 6 y.val, .b false]) :: (sv [.n 6 x3.val, .n 6 y3.val, .b false]) :: (.pointer (some ⟨(γ1 0), 6, none⟩)) :: (nv 6 [y.val]) :: (.pointer (some ⟨(γ1 0), 6, none⟩)) :: (nv 6 [y.val]) :: (nv 6 [z2.val]) :: (.pointer (some ⟨(γ1 0), 0, none⟩)) :: (nv 6 [x.val]) :: (.pointer (some ⟨(γ1 0), 0, none⟩)) :: (nv 6 [x.val]) :: (nv 6 [z3.val]) :: (nv 6 [z4.val]) :: (.bool true) :: undef :: undef :: undef :: undef :: undef :: undef :: undef :: undef :: undef :: undef :: undef :: undef :: undef :: undef :: []), []⟩) 0 (fun _ => 0) (fun _ => 0) (fun _ => 0) (fun _ => []) (fun _ => []) [45, 46, 47, 48, 49, 50, 51, 52, 53, 54, 55, 56, 57, 58, 59, 6] (.inl ⟨rfl, by kernel_rfl⟩) (by kernel_rfl) rfl rfl rfl ?_ ?_)
  · refine GSteps.cons (gm_val (v := sv [.n 6 x.val, .n 6 y.val, .b false]) rfl (fun _ => rfl) (fun _ => rfl) (fun γ w h => ex_loads 0 3 (m := [.n 6 x.val, .n 6 y.val, .b false]) flG1 rfl rfl (A27.keep h.out) rfl rfl) rfl) ?_
    refine GSteps.cons (gm_val (v := sv [.n 6 x.val, .n 6 y.val, .b false]) rfl (fun _ => rfl) (fun _ => rfl) (fun γ w h => ex_loads 0 3 (m := [.n 6 x.val, .n 6 y.val, .b false]) flG1 rfl rfl (A27.keep h.out) rfl rfl) rfl) ?_
    refine GSteps.cons (gm_val (v := sv [.n 6 x3.val, .n 6 y3.val, .b false]) rfl (fun _ => rfl) (fun _ => rfl) (fun γ w h => ex_loads 0 3 (m := [.n 6 x3.val, .n 6 y3.val, .b false]) flG1 rfl rfl (A29.keep h.out) rfl rfl) rfl) ?_
    refine GSteps.cons (gm_valg (fun γ => .pointer (some ⟨(γ1 0), 6, none⟩)) rfl (fun _ => rfl) (fun _ => rfl) (fun γ w h => ex_field faG1_1 rfl) rfl) ?_
    refine GSteps.cons (gm_val (v := nv 6 [y.val]) rfl (fun _ => rfl) (fun _ => rfl) (fun γ w h => ex_loadsn (K := 6) 1 1 (m := [y.val]) flFp rfl rfl (A27.keep h.out) rfl rfl) rfl) ?_
    refine GSteps.cons (gm_valg (fun γ => .pointer (some ⟨(γ1 0), 6, none⟩)) rfl (fun _ => rfl) (fun _ => rfl) (fun γ w h => ex_field faG1_1 rfl) rfl) ?_
    refine GSteps.cons (gm_val (v := nv 6 [y.val]) rfl (fun _ => rfl) (fun _ => rfl) (fun γ w h => ex_loadsn (K := 6) 1 1 (m := [y.val]) flFp rfl rfl (A27.keep h.out) rfl rfl) rfl) ?_
    refine GSteps.cons (gm_call (v := nv 6 [z2.val]) rfl (fun _ => rfl) (fun _ => rfl) (fun γ w => ex_call (vs := [nv 6 [y.val], nv 6 [y.val]]) rfl Try.call29 rfl) (fun w h => r4Add_e y y z2 rfl rfl ez2 _) rfl) ?_
    refine GSteps.cons (gm_valg (fun γ => .pointer (some ⟨(γ1 0), 0, none⟩)) rfl (fun _ => rfl) (fun _ => rfl) (fun γ w h => ex_field faG1_0 rfl) rfl) ?_
    refine GSteps.cons (gm_val (v := nv 6 [x.val]) rfl (fun _ => rfl) (fun _ => rfl) (fun γ w h => ex_loadsn (K := 6) 0 1 (m := [x.val]) flFp rfl rfl (A27.keep h.out) rfl rfl) rfl) ?_
    refine GSteps.cons (gm_valg (fun γ => .pointer (some ⟨(γ1 0), 0, none⟩)) rfl (fun _ => rfl) (fun _ => rfl) (fun γ w h => ex_field faG1_0 rfl) rfl) ?_
    refine GSteps.cons (gm_val (v := nv 6 [x.val]) rfl (fun _ => rfl) (fun _ => rfl) (fun γ w h => ex_loadsn (K := 6) 0 1 (m := [x.val]) flFp rfl rfl (A27.keep h.out) rfl rfl) rfl) ?_
    refine GSteps.cons (gm_call (v := nv 6 [z3.val]) rfl (fun _ => rfl) (fun _ => rfl) (fun γ w => ex_call (vs := [nv 6 [x.val], nv 6 [x.val]]) rfl Try.call28 rfl) (fun w h => r4Mul_e x x z3 rfl rfl ez3 _) rfl) ?_
    refine GSteps.cons (gm_call (v := nv 6 [z4.val]) rfl (fun _ => rfl) (fun _ => rfl) (fun γ w => ex_call (vs := [nv 6 [z3.val]]) rfl Try.call39 rfl) (fun w h => r8three_e z3 z4 rfl ez4 _) rfl) ?_
    refine GSteps.cons (gm_call (v := .bool true) rfl (fun _ => rfl) (fun _ => rfl) (fun γ w => ex_call (vs := [sv [.n 6 x.val, .n 6 y.val, .b false], sv [.n 6 x.val, .n 6 y.val, .b false], sv [.n 6 x3.val, .n 6 y3.val, .b false], nv 6 [z2.val], nv 6 [z4.val]]) rfl Try.call38 rfl) (fun w h => r8chord_v x y x y x3 y3 z2 z4 (by rw [ez2, ez4, ez3]; exact h1) (by rw [ez2, ez4, ez3]; exact h2) _) rfl) ?_
    refine GSteps.cons (gm_val (v := .bool true) rfl (fun _ => rfl) (fun _ => rfl) (fun γ w h => ex_assign _) rfl) ?_
    exact GSteps.nil
  intro _ w31 hb31 _ _
  refine th_r ?_
  have A32 := A27.keep hb31.out
  have A33 := A28.keep hb31.out
  have A34 := A29.keep hb31.out
  have HB35 := below_then HB30 hb31.out
  exact wp_ret (th_ret (bodyPost_ret (ret1 Try.results18 (res_tmp rfl)) rfl ⟨rfl, HB35⟩))

theorem sum_c1 {F : Type} [Rg F] {x1 y1 x2 y2 l : F} (hl : l * (x2 - x1) = y2 - y1) : ((l * l - x1 - x2) + (x1 + x2)) * ((x2 - x1) * (x2 - x1)) = (y2 - y1) * (y2 - y1) := by
  rw [← hl]; clear hl; grind
theorem sum_c2 {F : Type} [Rg F] {x1 y1 x2 y2 x3 l : F} (hl : l * (x2 - x1) = y2 - y1) : ((l * (x1 - x3) - y1) + y1) * (x2 - x1) = (y2 - y1) * (x1 - x3) := by
  rw [← hl]; clear hl; grind
theorem sum_t1 {F : Type} [Rg F] {x y l : F} (hl : l * (2 * y) = 3 * x * x) : ((l * l - x - x) + (x + x)) * ((y + y) * (y + y)) = (3 * (x * x)) * (3 * (x * x)) := by
  have e : 3 * (x * x) = l * (2 * y) := by rw [hl]; clear hl; grind
  rw [e]; clear e hl; grind
theorem sum_t2 {F : Type} [Rg F] {x y x3 l : F} (hl : l * (2 * y) = 3 * x * x) : ((l * (x - x3) - y) + y) * (y + y) = (3 * (x * x)) * (x - x3) := by
  have e : 3 * (x * x) = l * (2 * y) := by rw [hl]; clear hl; grind
  rw [e]; clear e hl; grind
theorem r8Sum_q (P Q R : E1) (h : P.add C1 Q = R) (w : World) : Calls Try.prog 18 #[sv [.n 6 (ax P.pt), .n 6 (ay P.pt), .b (ai P.pt)], sv [.n 6 (ax Q.pt), .n 6 (ay Q.pt), .b (ai Q.pt)], sv [.n 6 (ax R.pt), .n 6 (ay R.pt), .b (ai R.pt)]] w (Is (.bool true) w) := by
  have hs := EP.sum C1 P Q
  rw [h] at hs
  have hR := r8Right_p R
  obtain ⟨P, hP⟩ := P
  obtain ⟨Q, hQ⟩ := Q
  obtain ⟨R, hR'⟩ := R
  simp only at hs hR ⊢
  clear h hR'
  match P, Q, hP, hQ, hs with
  | .inf, Q, _, _, hs =>
    obtain rfl : R = Q := hs
    exact r8Sum_inf1 R w
  | .aff x y, .inf, _, _, hs =>
    obtain rfl : R = .aff x y := hs
    exact r8Sum_inf2 x y w
  | .aff x1 y1, .aff x2 y2, hP, hQ, hs =>
    rcases hs with ⟨rfl, hy, rfl⟩ | ⟨l, hl, hn, rfl⟩
    · exact r8Sum_opp x1 y1 y2 hy w
    · rcases hl with ⟨hne, hl⟩ | ⟨rfl, rfl, h0, hl⟩
      · have e1 := sum_c1 hl
        have e2 := sum_c2 (x3 := l * l - x1 - x2) hl
        unfold third at hR ⊢
        generalize l * (x1 - (l * l - x1 - x2)) - y1 = y3 at *
        generalize l * l - x1 - x2 = x3 at *
        exact r8Sum_chord x1 y1 x2 y2 x3 y3 hne e1 e2 hR w
      · have e1 := sum_t1 hl
        have e2 := sum_t2 (x3 := l * l - x1 - x1) hl
        unfold third at hR ⊢
        generalize l * (x1 - (l * l - x1 - x1)) - y1 = y3 at *
        generalize l * l - x1 - x1 = x3 at *
        exact r8Sum_tang x1 y1 x3 y3 (fun e => h0 (FdP.neg_self e)) e1 e2 hR w

end Go.Proofs.Yticglgegfebnjaa

/- What is proved here: the laws of package one: sums and their order. -/
import Derived.Test.YticglgegfebnjaaOne3
namespace Go.Proofs.Yticglgegfebnjaa
open Go.RowKit Cv

set_option maxRecDepth 20000 in
set_option maxHeartbeats 4000000 in
theorem onealive_v (w : World) :
    Calls Try.prog 10 #[] w (Is (.bool true) w) := by
  go_enter Try.func10, Try.ntmps10
  refine wp_seq (region_m (F := fun _ => ⟨#[.bool false, undef, undef, undef, undef, undef, undef, undef, undef], []⟩) 0 (fun _ => 0) (fun _ => 0) (fun _ => 0) (fun _ => []) (fun _ => []) [0] (.inr ⟨rfl, by kernel_rfl⟩) (by kernel_rfl) rfl rfl rfl ?_ ?_)
  · refine GSteps.cons (gm_val (v := .bool false) rfl (fun _ => rfl) (fun _ => rfl) (fun γ w h => ex_assign _) rfl) ?_
    exact GSteps.nil
  intro _ w1 hb1 _ _
  refine th_r ?_
  have HB2 := below_then (Below.refl w.heap.size w) hb1.out
  refine wp_seq (region_m (F := fun _ => ⟨#[.bool true, sv [.n 6 g1x, .n 6 g1y, .b false], sv [.n 6 g1x, .n 6 g1y, .b false], .bool true, .bool true, sv [.n 6 0, .n 6 0, .b true], sv [.n 6 0, .n 6 0, .b true], .bool true, .bool true], []⟩) 0 (fun _ => 0) (fun _ => 0) (fun _ => 0) (fun _ => []) (fun _ => []) [1, 2, 3, 4, 5, 6, 7, 8, 0] (.inr ⟨rfl, by kernel_rfl⟩) (by kernel_rfl) rfl rfl rfl ?_ ?_)
  · refine GSteps.cons (gm_call (v := sv [.n 6 g1x, .n 6 g1y, .b false]) rfl (fun _ => rfl) (fun _ => rfl) (fun γ w => ex_call (vs := []) rfl Try.call13 rfl) (fun w h => oneGen_v _) rfl) ?_
    refine GSteps.cons (gm_call (v := sv [.n 6 g1x, .n 6 g1y, .b false]) rfl (fun _ => rfl) (fun _ => rfl) (fun γ w => ex_call (vs := [.int .i64 0]) rfl Try.call30 rfl) (fun w h => r8Some_v _) rfl) ?_
    refine GSteps.cons (gm_val (v := .bool true) rfl (fun _ => rfl) (fun _ => rfl) (fun γ w h => ex_eqs gdG1 eqG1 rfl rfl rfl (shG1_of g1x_B g1y_B) (shG1_of g1x_B g1y_B) true (by simp)) rfl) ?_
    refine GSteps.cons (gm_val (v := .bool true) rfl (fun _ => rfl) (fun _ => rfl) (fun γ w h => ex_move _) rfl) ?_
    refine GSteps.cons (gm_call (v := sv [.n 6 0, .n 6 0, .b true]) rfl (fun _ => rfl) (fun _ => rfl) (fun γ w => ex_call (vs := []) rfl Try.call14 rfl) (fun w h => oneZero_v _) rfl) ?_
    refine GSteps.cons (gm_val (v := sv [.n 6 0, .n 6 0, .b true]) rfl (fun _ => rfl) (fun _ => rfl) (fun γ w h => ex_builds stG1 (l := [.n 6 0, .n 6 0, .b true]) (vs := [(2, .bool true)]) rfl ((fills_cons 2 1 (m := [.b true]) (z' := [.n 6 0, .n 6 0, .b true]) rfl (bool_cells true) rfl rfl rfl rfl).trans rfl)) rfl) ?_
    refine GSteps.cons (gm_val (v := .bool true) rfl (fun _ => rfl) (fun _ => rfl) (fun γ w h => ex_eqs gdG1 eqG1 rfl rfl rfl (shG1_of zero_B zero_B) (shG1_of zero_B zero_B) true (by simp)) rfl) ?_
    refine GSteps.cons (gm_val (v := .bool true) rfl (fun _ => rfl) (fun _ => rfl) (fun γ w h => ex_pick (r := true) rfl) rfl) ?_
    refine GSteps.cons (gm_val (v := .bool true) rfl (fun _ => rfl) (fun _ => rfl) (fun γ w h => ex_assign _) rfl) ?_
    exact GSteps.nil
  intro _ w3 hb3 _ _
  refine th_r ?_
  have HB4 := below_then HB2 hb3.out
  exact wp_ret (bodyPost_ret (ret1 Try.results10 (res_tmp rfl)) rfl ⟨rfl, HB4⟩)

set_option maxRecDepth 20000 in
set_option maxHeartbeats 4000000 in
theorem oneadd_v (P Q R : E1) (hs : P.add C1 Q = R) (w : World) :
    Calls Try.prog 19 #[sv [.n 6 (ax P.pt), .n 6 (ay P.pt), .b (ai P.pt)], sv [.n 6 (ax Q.pt), .n 6 (ay Q.pt), .b (ai Q.pt)]] w (Is (sv [.n 6 (ax R.pt), .n 6 (ay R.pt), .b (ai R.pt)]) w) := by
  go_enter Try.func19, Try.ntmps19
  refine wp_seq (region_m (F := fun γ => ⟨#[sv [.n 6 (ax P.pt), .n 6 (ay P.pt), .b (ai P.pt)], sv [.n 6 (ax Q.pt), .n 6 (ay Q.pt), .b (ai Q.pt)], .pointer (some ⟨γ 0, 0, none⟩), .pointer (some ⟨γ 1, 0, none⟩), .pointer (some ⟨γ 2, 0, none⟩), undef, undef, undef, undef, undef, undef, undef, undef, undef], []⟩) 3 (fun j_ => match j_ with | 0 => 26 | 1 => 26 | _ => 26) (fun j_ => match j_ with | 0 => 0 | 1 => 1 | _ => 2) (fun j_ => match j_ with | 0 => 0 | 1 => 1 | _ => 2) (fun j_ => match j_ with | 0 => segs [.n 6 (ax P.pt), .n 6 (ay P.pt), .b (ai P.pt)] | 1 => segs [.n 6 (ax Q.pt), .n 6 (ay Q.pt), .b (ai Q.pt)] | _ => segs [.n 6 0, .n 6 0, .b false]) (fun j_ => match j_ with | 0 => segs [.n 6 (ax P.pt), .n 6 (ay P.pt), .b (ai P.pt)] | 1 => segs [.n 6 (ax Q.pt), .n 6 (ay Q.pt), .b (ai Q.pt)] | _ => segs [.n 6 0, .n 6 0, .b false]) [2, 3, 4] (.inr ⟨rfl, by kernel_rfl⟩) (by kernel_rfl) rfl rfl rfl ?_ ?_)
  · refine GSteps.cons (gm_box 0 rfl (fun _ => rfl) (fun _ _ => rfl) (fun γ w h => ex_boxs (l := [.n 6 (ax P.pt), .n 6 (ay P.pt), .b (ai P.pt)]) rfl) rfl rfl rfl) ?_
    refine GSteps.cons (gm_box 1 rfl (fun _ => rfl) (fun _ _ => rfl) (fun γ w h => ex_boxs (l := [.n 6 (ax Q.pt), .n 6 (ay Q.pt), .b (ai Q.pt)]) rfl) rfl rfl rfl) ?_
    refine GSteps.cons (gm_box 2 rfl (fun _ => rfl) (fun _ _ => rfl) (fun γ w h => ex_allocs (l := [.n 6 0, .n 6 0, .b false]) zG1) rfl rfl rfl) ?_
    exact GSteps.nil
  intro γ1 w1 hb1 hB1 hn1
  refine th_r ?_
  have A2 : SB 26 w1 (γ1 0) [.n 6 (ax P.pt), .n 6 (ay P.pt), .b (ai P.pt)] := (hB1 0 (by decide)).2
  have le2 := (hB1 0 (by decide)).1
  have A3 : SB 26 w1 (γ1 1) [.n 6 (ax Q.pt), .n 6 (ay Q.pt), .b (ai Q.pt)] := (hB1 1 (by decide)).2
  have le3 := (hB1 1 (by decide)).1
  have A4 : SB 26 w1 (γ1 2) [.n 6 0, .n 6 0, .b false] := (hB1 2 (by decide)).2
  have le4 := (hB1 2 (by decide)).1
  have HB5 := below_then (Below.refl w.heap.size w) hb1.out
  refine wp_seq (region_m (F := fun γ => ⟨#[sv [.n 6 (ax P.pt), .n 6 (ay P.pt), .b (ai P.pt)], sv [.n 6 (ax Q.pt), .n 6 (ay Q.pt), .b (ai Q.pt)], .pointer (some ⟨(γ1 0), 0, none⟩), .pointer (some ⟨(γ1 1), 0, none⟩), .pointer (some ⟨(γ1 2), 0, none⟩), .pointer (some ⟨γ 0, 0, none⟩), .int .i64 0, .tuple #[sv [.n 6 (ax R.pt), .n 6 (ay R.pt), .b (ai R.pt)], .int .i64 0], sv [.n 6 (ax P.pt), .n 6 (ay P.pt), .b (ai P.pt)], sv [.n 6 (ax Q.pt), .n 6 (ay Q.pt), .b (ai Q.pt)], .tuple #[sv [.n 6 (ax R.pt), .n 6 (ay R.pt), .b (ai R.pt)], .int .i64 0], sv [.n 6 (ax R.pt), .n 6 (ay R.pt), .b (ai R.pt)], .int .i64 0, undef], []⟩) 1 (fun _ => 26) (fun _ => 6) (fun _ => 7) (fun _ => segs [.n 6 0, .n 6 0, .b false]) (fun _ => segs [.n 6 (ax R.pt), .n 6 (ay R.pt), .b (ai R.pt)]) [8, 9, 10, 7, 11, 12, 5, 6] (.inr ⟨rfl, by kernel_rfl⟩) (by kernel_rfl) rfl rfl rfl ?_ ?_)
  · refine GSteps.cons (gm_val (v := sv [.n 6 (ax P.pt), .n 6 (ay P.pt), .b (ai P.pt)]) rfl (fun _ => rfl) (fun _ => rfl) (fun γ w h => ex_loads 0 3 (m := [.n 6 (ax P.pt), .n 6 (ay P.pt), .b (ai P.pt)]) flG1 rfl rfl (A2.keep h.out) rfl rfl) rfl) ?_
    refine GSteps.cons (gm_val (v := sv [.n 6 (ax Q.pt), .n 6 (ay Q.pt), .b (ai Q.pt)]) rfl (fun _ => rfl) (fun _ => rfl) (fun γ w h => ex_loads 0 3 (m := [.n 6 (ax Q.pt), .n 6 (ay Q.pt), .b (ai Q.pt)]) flG1 rfl rfl (A3.keep h.out) rfl rfl) rfl) ?_
    refine GSteps.cons (gm_call (v := .tuple #[sv [.n 6 (ax R.pt), .n 6 (ay R.pt), .b (ai R.pt)], .int .i64 0]) rfl (fun _ => rfl) (fun _ => rfl) (fun γ w => ex_call (vs := [sv [.n 6 (ax P.pt), .n 6 (ay P.pt), .b (ai P.pt)], sv [.n 6 (ax Q.pt), .n 6 (ay Q.pt), .b (ai Q.pt)]]) rfl Try.call15 rfl) (fun w h => oneAdd_p P Q R hs _) rfl) ?_
    refine GSteps.cons (gm_val (v := .tuple #[sv [.n 6 (ax R.pt), .n 6 (ay R.pt), .b (ai R.pt)], .int .i64 0]) rfl (fun _ => rfl) (fun _ => rfl) (fun γ w h => ex_move _) rfl) ?_
    refine GSteps.cons (gm_val (v := sv [.n 6 (ax R.pt), .n 6 (ay R.pt), .b (ai R.pt)]) rfl (fun _ => rfl) (fun _ => rfl) (fun γ w h => ex_extract (vs := [sv [.n 6 (ax R.pt), .n 6 (ay R.pt), .b (ai R.pt)], .int .i64 0]) rfl rfl) rfl) ?_
    refine GSteps.cons (gm_val (v := .int .i64 0) rfl (fun _ => rfl) (fun _ => rfl) (fun γ w h => ex_extract (vs := [sv [.n 6 (ax R.pt), .n 6 (ay R.pt), .b (ai R.pt)], .int .i64 0]) rfl rfl) rfl) ?_
    refine GSteps.cons (gm_new 0 rfl (fun _ => rfl) (fun _ _ => rfl) (fun γ w => ex_allocs (l := [.n 6 0, .n 6 0, .b false]) zG1) rfl (by kernel_rfl)) ?_
    refine GSteps.cons (gm_store 0 rfl rfl (fun _ => rfl) (len_segs (l := [.n 6 (ax R.pt), .n 6 (ay R.pt), .b (ai R.pt)]) (l' := [.n 6 0, .n 6 0, .b false]) rfl) (fun γ w h => ex_stores 0 3 (l := [.n 6 0, .n 6 0, .b false]) (m := [.n 6 (ax R.pt), .n 6 (ay R.pt), .b (ai R.pt)]) flG1.2 rfl rfl rfl rfl h rfl rfl) rfl rfl (by kernel_rfl)) ?_
    refine GSteps.cons (gm_val (v := .int .i64 0) rfl (fun _ => rfl) (fun _ => rfl) (fun γ w h => ex_assign _) rfl) ?_
    exact GSteps.nil
  intro γ6 w6 hb6 hB6 _
  refine th_r ?_
  have A7 := A2.keep hb6.out
  have A8 := A3.keep hb6.out
  have A9 := A4.keep hb6.out
  have A10 : SB 26 w6 (γ6 0) [.n 6 (ax R.pt), .n 6 (ay R.pt), .b (ai R.pt)] := (hB6 0 (by decide)).2
  have le10 := (hB6 0 (by decide)).1
  have HB11 := below_then HB5 hb6.out
  refine wp_seq (region_ms (F := fun _ => ⟨#[sv [.n 6 (ax P.pt), .n 6 (ay P.pt), .b (ai P.pt)], sv [.n 6 (ax Q.pt), .n 6 (ay Q.pt), .b (ai Q.pt)], .pointer (some ⟨(γ1 0), 0, none⟩), .pointer (some ⟨(γ1 1), 0, none⟩), .pointer (some ⟨(γ1 2), 0, none⟩), .pointer (some ⟨(γ6 0), 0, none⟩), .int .i64 0, .tuple #[sv [.n 6 (ax R.pt), .n 6 (ay R.pt), .b (ai R.pt)], .int .i64 0], sv [.n 6 (ax P.pt), .n 6 (ay P.pt), .b (ai P.pt)], sv [.n 6 (ax Q.pt), .n 6 (ay Q.pt), .b (ai Q.pt)], .tuple #[sv [.n 6 (ax R.pt), .n 6 (ay R.pt), .b (ai R.pt)], .int .i64 0], sv [.n 6 (ax R.pt), .n 6 (ay R.pt), .b (ai R.pt)], .int .i64 0, sv [.n 6 (ax R.pt), .n 6 (ay R.pt), .b (ai R.pt)]], []⟩) 1 ((γ1 2)) 0 (segs [.n 6 (ax R.pt), .n 6 (ay R.pt), .b (ai R.pt)]) 0 (fun _ => 0) (fun _ => 0) (fun _ => 0) (fun _ => []) (fun _ => []) [13] (.inr ⟨rfl, by kernel_rfl⟩) (by kernel_rfl) rfl rfl rfl ?_ ?_)
  · refine GSteps.cons (late_step (gm_val (v := sv [.n 6 (ax R.pt), .n 6 (ay R.pt), .b (ai R.pt)]) rfl (fun _ => rfl) (fun _ => rfl) (fun γ w h => ex_loads 0 3 (m := [.n 6 (ax R.pt), .n 6 (ay R.pt), .b (ai R.pt)]) flG1 rfl rfl (A10.keep h.out) rfl rfl) rfl) (by kernel_rfl) rfl) ?_
    refine GSteps.cons (late_store rfl (fun _ => rfl) (fun γ w h => ex_stores 0 3 (l := [.n 6 0, .n 6 0, .b false]) (m := [.n 6 (ax R.pt), .n 6 (ay R.pt), .b (ai R.pt)]) flG1.2 rfl rfl rfl rfl (A9.keep h.out) rfl rfl) rfl) ?_
    exact GSteps.nil
  intro _ w12 w12_ hb12 _ _ hs12
  refine th_r ?_
  have A13 := A7.keep hb12.out
  have A14 := A8.keep hb12.out
  have A15 := A9.keep hb12.out
  have A16 := A10.keep hb12.out
  have HB17 := below_then HB11 hb12.out
  have A18 := hs12.other (hn1 0 2 (by decide) (by decide) (by decide)) A13
  have A19 := hs12.other (hn1 1 2 (by decide) (by decide) (by decide)) A14
  have A20 := hs12.here 0 3 (l' := [.n 6 (ax R.pt), .n 6 (ay R.pt), .b (ai R.pt)]) A15 rfl rfl rfl
  have A21 := hs12.other (Ne.symm (Nat.ne_of_lt (Nat.lt_of_lt_of_le A4.lt le10))) A16
  have HB22 := hs12.below HB17 (Nat.le_trans (Nat.le_refl _) le4)
  exact wp_ret (bodyPost_ret (ret1 Try.results19 (res_sv rfl A20 flG1 rfl)) rfl ⟨rfl, HB22⟩)

set_option maxRecDepth 20000 in
set_option maxHeartbeats 4000000 in
theorem oneGroup_1 (x : Nat) (y : Nat) (i : Bool) (hx : x < fpB) (hy : y < fpB) (h0 : ¬ RawOk x y i) (x1 : Nat) (y1 : Nat) (i1 : Bool) (x2 : Nat) (y2 : Nat) (i2 : Bool) (w : World) :
    Calls Try.prog 5 #[sv [.n 6 x, .n 6 y, .b i], sv [.n 6 x1, .n 6 y1, .b i1], sv [.n 6 x2, .n 6 y2, .b i2]] w (Is (.bool true) w) := by
  go_enter Try.func5, Try.ntmps5
  refine wp_seq (region_m (F := fun γ => ⟨List.toArray ((sv [.n 6 x, .n 6 y, .b i]) :: (sv [.n 6 x1, .n 6 y1, .b i1]) :: (sv [.n 6 x2, .n 6 y2, .b i2]) :: (.pointer (some ⟨γ 0, 0, none⟩)) :: (.pointer (some ⟨γ 1, 0, none⟩)) :: (.pointer (some ⟨γ 2, 0, none⟩)) :: (.bool false) :: undef :: undef :: undef :: undef :: undef :: undef :: undef :: undef :: undef :: undef :: undef :: undef :: undef :: undef :: undef :: undef :: undef :: undef :: undef :: undef :: undef :: undef :: undef :: undef :: undef :: undef :: undef :: undef :: undef :: undef :: undef :: undef :: undef :: undef :: undef :: undef :: undef :: undef :: undef :: undef :: undef :: undef :: undef :: undef :: undef :: undef :: undef :: undef :: undef :: undef :: undef :: undef :: undef :: undef :: undef :: undef :: undef :: undef :: undef :: undef :: undef :: undef :: undef :: undef :: undef :: undef :: undef :: undef :: undef :: undef :: undef :: undef :: undef :: undef :: undef :: undef :: undef :: []), []⟩) 3 (fun j_ => match j_ with | 0 => 26 | 1 => 26 | _ => 26) (fun j_ => match j_ with | 0 => 0 | 1 => 1 | _ => 2) (fun j_ => match j_ with | 0 => 0 | 1 => 1 | _ => 2) (fun j_ => match j_ with | 0 => segs [.n 6 x, .n 6 y, .b i] | 1 => segs [.n 6 x1, .n 6 y1, .b i1] | _ => segs [.n 6 x2, .n 6 y2, .b i2]) (fun j_ => match j_ with | 0 => segs [.n 6 x, .n 6 y, .b i] | 1 => segs [.n 6 x1, .n 6 y1, .b i1] | _ => segs [.n 6 x2, .n 6 y2, .b i2]) [3, 4, 5, 6] (.inr ⟨rfl, by kernel_rfl⟩) (by kernel_rfl) rfl rfl rfl ?_ ?_)
  · refine GSteps.cons (gm_box 0 rfl (fun _ => rfl) (fun _ _ => rfl) (fun γ w h => ex_boxs (l := [.n 6 x, .n 6 y, .b i]) rfl) rfl rfl rfl) ?_
    refine GSteps.cons (gm_box 1 rfl (fun _ => rfl) (fun _ _ => rfl) (fun γ w h => ex_boxs (l := [.n 6 x1, .n 6 y1, .b i1]) rfl) rfl rfl rfl) ?_
    refine GSteps.cons (gm_box 2 rfl (fun _ => rfl) (fun _ _ => rfl) (fun γ w h => ex_boxs (l := [.n 6 x2, .n 6 y2, .b i2]) rfl) rfl rfl rfl) ?_
    refine GSteps.cons (gm_val (v := .bool false) rfl (fun _ => rfl) (fun _ => rfl) (fun γ w h => ex_assign _) rfl) ?_
    exact GSteps.nil
  intro γ1 w1 hb1 hB1 hn1
  refine th_r ?_
  have A2 : SB 26 w1 (γ1 0) [.n 6 x, .n 6 y, .b i] := (hB1 0 (by decide)).2
  have le2 := (hB1 0 (by decide)).1
  have A3 : SB 26 w1 (γ1 1) [.n 6 x1, .n 6 y1, .b i1] := (hB1 1 (by decide)).2
  have le3 := (hB1 1 (by decide)).1
  have A4 : SB 26 w1 (γ1 2) [.n 6 x2, .n 6 y2, .b i2] := (hB1 2 (by decide)).2
  have le4 := (hB1 2 (by decide)).1
  have HB5 := below_then (Below.refl w.heap.size w) hb1.out
  refine wp_seq ?_
  refine wp_seq (region_m (F := fun _ => ⟨List.toArray ((sv [.n 6 x, .n 6 y, .b i]) :: (sv [.n 6 x1, .n 6 y1, .b i1]) :: (sv [.n 6 x2, .n 6 y2, .b i2]) :: (.pointer (some ⟨(γ1 0), 0, none⟩)) :: (.pointer (some ⟨(γ1 1), 0, none⟩)) :: (.pointer (some ⟨(γ1 2), 0, none⟩)) :: (.bool false) :: undef :: undef :: (sv [.n 6 x, .n 6 y, .b i]) :: (.bool false) :: (.bool true) :: (.bool true) :: undef :: undef :: undef :: (.bool true) :: (.bool true) :: undef :: undef :: undef :: (.bool true) :: undef :: undef :: undef :: undef :: undef :: undef :: undef :: undef :: undef :: undef :: undef :: undef :: undef :: undef :: undef :: undef :: undef :: undef :: undef :: undef :: undef :: undef :: undef :: undef :: undef :: undef :: undef :: undef :: undef :: undef :: undef :: undef :: undef :: undef :: undef :: undef :: undef :: undef :: undef :: undef :: undef :: undef :: undef :: undef :: undef :: undef :: undef :: undef :: undef :: undef :: undef :: undef :: undef :: undef :: undef :: undef :: undef :: undef :: undef :: undef :: undef :: undef :: []), []⟩) 0 (fun _ => 0) (fun _ => 0) (fun _ => 0) (fun _ => []) (fun _ => []) [9, 10, 11, 12, 13, 14, 15, 16, 17, 18, 19, 20, 21] (.inr ⟨rfl, by kernel_rfl⟩) (by kernel_rfl) rfl rfl rfl ?_ ?_)
  · refine GSteps.cons (gm_val (v := sv [.n 6 x, .n 6 y, .b i]) rfl (fun _ => rfl) (fun _ => rfl) (fun γ w h => ex_loads 0 3 (m := [.n 6 x, .n 6 y, .b i]) flG1 rfl rfl (A2.keep h.out) rfl rfl) rfl) ?_
    refine GSteps.cons (gm_call (v := .bool false) rfl (fun _ => rfl) (fun _ => rfl) (fun γ w => ex_call (vs := [sv [.n 6 x, .n 6 y, .b i]]) rfl Try.call9 rfl) (fun w h => r8Right_no hx hy h0 _) rfl) ?_
    refine GSteps.cons (gm_val (v := .bool true) rfl (fun _ => rfl) (fun _ => rfl) (fun γ w h => ex_not (r := false) rfl) rfl) ?_
    refine GSteps.cons (gm_val (v := .bool true) rfl (fun _ => rfl) (fun _ => rfl) (fun γ w h => ex_move _) rfl) ?_
    refine GSteps.cons (gm_skip rfl (fun _ => rfl) (fun _ => rfl) rfl) ?_
    refine GSteps.cons (gm_skip rfl (fun _ => rfl) (fun _ => rfl) rfl) ?_
    refine GSteps.cons (gm_skip rfl (fun _ => rfl) (fun _ => rfl) rfl) ?_
    refine GSteps.cons (gm_val (v := .bool true) rfl (fun _ => rfl) (fun _ => rfl) (fun γ w h => ex_pick (r := true) rfl) rfl) ?_
    refine GSteps.cons (gm_val (v := .bool true) rfl (fun _ => rfl) (fun _ => rfl) (fun γ w h => ex_move _) rfl) ?_
    refine GSteps.cons (gm_skip rfl (fun _ => rfl) (fun _ => rfl) rfl) ?_
    refine GSteps.cons (gm_skip rfl (fun _ => rfl) (fun _ => rfl) rfl) ?_
    refine GSteps.cons (gm_skip rfl (fun _ => rfl) (fun _ => rfl) rfl) ?_
    refine GSteps.cons (gm_val (v := .bool true) rfl (fun _ => rfl) (fun _ => rfl) (fun γ w h => ex_pick (r := true) rfl) rfl) ?_
    exact GSteps.nil
  intro _ w6 hb6 _ _
  refine th_r ?_
  have A7 := A2.keep hb6.out
  have A8 := A3.keep hb6.out
  have A9 := A4.keep hb6.out
  have HB10 := below_then HB5 hb6.out
  refine wp_cond_true rfl ?_
  refine wp_seq (region_m (F := fun _ => ⟨List.toArray ((sv [.n 6 x, .n 6 y, .b i]) :: (sv [.n 6 x1, .n 6 y1, .b i1]) :: (sv [.n 6 x2, .n 6 y2, .b i2]) :: (.pointer (some ⟨(γ1 0), 0, none⟩)) :: (.pointer (some ⟨(γ1 1), 0, none⟩)) :: (.pointer (some ⟨(γ1 2), 0, none⟩)) :: (.bool true) :: undef :: undef :: (sv [.n 6 x, .n 6 y, .b i]) :: (.bool false) :: (.bool true) :: (.bool true) :: undef :: undef :: undef :: (.bool true) :: (.bool true) :: undef :: undef :: undef :: (.bool true) :: (.bool true) :: undef :: undef :: undef :: undef :: undef :: undef :: undef :: undef :: undef :: undef :: undef :: undef :: undef :: undef :: undef :: undef :: undef :: undef :: undef :: undef :: undef :: undef :: undef :: undef :: undef :: undef :: undef :: undef :: undef :: undef :: undef :: undef :: undef :: undef :: undef :: undef :: undef :: undef :: undef :: undef :: undef :: undef :: undef :: undef :: undef :: undef :: undef :: undef :: undef :: undef :: undef :: undef :: undef :: undef :: undef :: undef :: undef :: undef :: undef :: undef :: undef :: []), []⟩) 0 (fun _ => 0) (fun _ => 0) (fun _ => 0) (fun _ => []) (fun _ => []) [22, 6] (.inr ⟨rfl, by kernel_rfl⟩) (by kernel_rfl) rfl rfl rfl ?_ ?_)
  · refine GSteps.cons (gm_call (v := .bool true) rfl (fun _ => rfl) (fun _ => rfl) (fun γ w => ex_call (vs := []) rfl Try.call10 rfl) (fun w h => onealive_v _) rfl) ?_
    refine GSteps.cons (gm_val (v := .bool true) rfl (fun _ => rfl) (fun _ => rfl) (fun γ w h => ex_assign _) rfl) ?_
    exact GSteps.nil
  intro _ w11 hb11 _ _
  refine th_r ?_
  have A12 := A7.keep hb11.out
  have A13 := A8.keep hb11.out
  have A14 := A9.keep hb11.out
  have HB15 := below_then HB10 hb11.out
  exact wp_ret (th_ret (bodyPost_ret (ret1 Try.results5 (res_tmp rfl)) rfl ⟨rfl, HB15⟩))

set_option maxRecDepth 20000 in
set_option maxHeartbeats 4000000 in
theorem oneGroup_2 (P : E1) (x : Nat) (y : Nat) (i : Bool) (hx : x < fpB) (hy : y < fpB) (h0 : ¬ RawOk x y i) (x2 : Nat) (y2 : Nat) (i2 : Bool) (w : World) :
    Calls Try.prog 5 #[sv [.n 6 (ax P.pt), .n 6 (ay P.pt), .b (ai P.pt)], sv [.n 6 x, .n 6 y, .b i], sv [.n 6 x2, .n 6 y2, .b i2]] w (Is (.bool true) w) := by
  go_enter Try.func5, Try.ntmps5
  refine wp_seq (region_m (F := fun γ => ⟨List.toArray ((sv [.n 6 (ax P.pt), .n 6 (ay P.pt), .b (ai P.pt)]) :: (sv [.n 6 x, .n 6 y, .b i]) :: (sv [.n 6 x2, .n 6 y2, .b i2]) :: (.pointer (some ⟨γ 0, 0, none⟩)) :: (.pointer (some ⟨γ 1, 0, none⟩)) :: (.pointer (some ⟨γ 2, 0, none⟩)) :: (.bool false) :: undef :: undef :: undef :: undef :: undef :: undef :: undef :: undef :: undef :: undef :: undef :: undef :: undef :: undef :: undef :: undef :: undef :: undef :: undef :: undef :: undef :: undef :: undef :: undef :: undef :: undef :: undef :: undef :: undef :: undef :: undef :: undef :: undef :: undef :: undef :: undef :: undef :: undef :: undef :: undef :: undef :: undef :: undef :: undef :: undef :: undef :: undef :: undef :: undef :: undef :: undef :: undef :: undef :: undef :: undef :: undef :: undef :: undef :: undef :: undef :: undef :: undef :: undef :: undef :: undef :: undef :: undef :: undef :: undef :: undef :: undef :: undef :: undef :: undef :: undef :: undef :: undef :: []), []⟩) 3 (fun j_ => match j_ with | 0 => 26 | 1 => 26 | _ => 26) (fun j_ => match j_ with | 0 => 0 | 1 => 1 | _ => 2) (fun j_ => match j_ with | 0 => 0 | 1 => 1 | _ => 2) (fun j_ => match j_ with | 0 => segs [.n 6 (ax P.pt), .n 6 (ay P.pt), .b (ai P.pt)] | 1 => segs [.n 6 x, .n 6 y, .b i] | _ => segs [.n 6 x2, .n 6 y2, .b i2]) (fun j_ => match j_ with | 0 => segs [.n 6 (ax P.pt), .n 6 (ay P.pt), .b (ai P.pt)] | 1 => segs [.n 6 x, .n 6 y, .b i] | _ => segs [.n 6 x2, .n 6 y2, .b i2]) [3, 4, 5, 6] (.inr ⟨rfl, by kernel_rfl⟩) (by kernel_rfl) rfl rfl rfl ?_ ?_)
  · refine GSteps.cons (gm_box 0 rfl (fun _ => rfl) (fun _ _ => rfl) (fun γ w h => ex_boxs (l := [.n 6 (ax P.pt), .n 6 (ay P.pt), .b (ai P.pt)]) rfl) rfl rfl rfl) ?_
    refine GSteps.cons (gm_box 1 rfl (fun _ => rfl) (fun _ _ => rfl) (fun γ w h => ex_boxs (l := [.n 6 x, .n 6 y, .b i]) rfl) rfl rfl rfl) ?_
    refine GSteps.cons (gm_box 2 rfl (fun _ => rfl) (fun _ _ => rfl) (fun γ w h => ex_boxs (l := [.n 6 x2, .n 6 y2, .b i2]) rfl) rfl rfl rfl) ?_
    refine GSteps.cons (gm_val (v := .bool false) rfl (fun _ => rfl) (fun _ => rfl) (fun γ w h => ex_assign _) rfl) ?_
    exact GSteps.nil
  intro γ1 w1 hb1 hB1 hn1
  refine th_r ?_
  have A2 : SB 26 w1 (γ1 0) [.n 6 (ax P.pt), .n 6 (ay P.pt), .b (ai P.pt)] := (hB1 0 (by decide)).2
  have le2 := (hB1 0 (by decide)).1
  have A3 : SB 26 w1 (γ1 1) [.n 6 x, .n 6 y, .b i] := (hB1 1 (by decide)).2
  have le3 := (hB1 1 (by decide)).1
  have A4 : SB 26 w1 (γ1 2) [.n 6 x2, .n 6 y2, .b i2] := (hB1 2 (by decide)).2
  have le4 := (hB1 2 (by decide)).1
  have HB5 := below_then (Below.refl w.heap.size w) hb1.out
  refine wp_seq ?_
  refine wp_seq (region_m (F := fun _ => ⟨List.toArray ((sv [.n 6 (ax P.pt), .n 6 (ay P.pt), .b (ai P.pt)]) :: (sv [.n 6 x, .n 6 y, .b i]) :: (sv [.n 6 x2, .n 6 y2, .b i2]) :: (.pointer (some ⟨(γ1 0), 0, none⟩)) :: (.pointer (some ⟨(γ1 1), 0, none⟩)) :: (.pointer (some ⟨(γ1 2), 0, none⟩)) :: (.bool false) :: undef :: undef :: (sv [.n 6 (ax P.pt), .n 6 (ay P.pt), .b (ai P.pt)]) :: (.bool true) :: (.bool false) :: (.bool false) :: (sv [.n 6 x, .n 6 y, .b i]) :: (.bool false) :: (.bool true) :: (.bool true) :: (.bool true) :: undef :: undef :: undef :: (.bool true) :: undef :: undef :: undef :: undef :: undef :: undef :: undef :: undef :: undef :: undef :: undef :: undef :: undef :: undef :: undef :: undef :: undef :: undef :: undef :: undef :: undef :: undef :: undef :: undef :: undef :: undef :: undef :: undef :: undef :: undef :: undef :: undef :: undef :: undef :: undef :: undef :: undef :: undef :: undef :: undef :: undef :: undef :: undef :: undef :: undef :: undef :: undef :: undef :: undef :: undef :: undef :: undef :: undef :: undef :: undef :: undef :: undef :: undef :: undef :: undef :: undef :: undef :: []), []⟩) 0 (fun _ => 0) (fun _ => 0) (fun _ => 0) (fun _ => []) (fun _ => []) [9, 10, 11, 12, 13, 14, 15, 16, 17, 18, 19, 20, 21] (.inr ⟨rfl, by kernel_rfl⟩) (by kernel_rfl) rfl rfl rfl ?_ ?_)
  · refine GSteps.cons (gm_val (v := sv [.n 6 (ax P.pt), .n 6 (ay P.pt), .b (ai P.pt)]) rfl (fun _ => rfl) (fun _ => rfl) (fun γ w h => ex_loads 0 3 (m := [.n 6 (ax P.pt), .n 6 (ay P.pt), .b (ai P.pt)]) flG1 rfl rfl (A2.keep h.out) rfl rfl) rfl) ?_
    refine GSteps.cons (gm_call (v := .bool true) rfl (fun _ => rfl) (fun _ => rfl) (fun γ w => ex_call (vs := [sv [.n 6 (ax P.pt), .n 6 (ay P.pt), .b (ai P.pt)]]) rfl Try.call9 rfl) (fun w h => r8Right_p P _) rfl) ?_
    refine GSteps.cons (gm_val (v := .bool false) rfl (fun _ => rfl) (fun _ => rfl) (fun γ w h => ex_not (r := true) rfl) rfl) ?_
    refine GSteps.cons (gm_val (v := .bool false) rfl (fun _ => rfl) (fun _ => rfl) (fun γ w h => ex_move _) rfl) ?_
    refine GSteps.cons (gm_val (v := sv [.n 6 x, .n 6 y, .b i]) rfl (fun _ => rfl) (fun _ => rfl) (fun γ w h => ex_loads 0 3 (m := [.n 6 x, .n 6 y, .b i]) flG1 rfl rfl (A3.keep h.out) rfl rfl) rfl) ?_
    refine GSteps.cons (gm_call (v := .bool false) rfl (fun _ => rfl) (fun _ => rfl) (fun γ w => ex_call (vs := [sv [.n 6 x, .n 6 y, .b i]]) rfl Try.call9 rfl) (fun w h => r8Right_no hx hy h0 _) rfl) ?_
    refine GSteps.cons (gm_val (v := .bool true) rfl (fun _ => rfl) (fun _ => rfl) (fun γ w h => ex_not (r := false) rfl) rfl) ?_
    refine GSteps.cons (gm_val (v := .bool true) rfl (fun _ => rfl) (fun _ => rfl) (fun γ w h => ex_pick (r := false) rfl) rfl) ?_
    refine GSteps.cons (gm_val (v := .bool true) rfl (fun _ => rfl) (fun _ => rfl) (fun γ w h => ex_move _) rfl) ?_
    refine GSteps.cons (gm_skip rfl (fun _ => rfl) (fun _ => rfl) rfl) ?_
    refine GSteps.cons (gm_skip rfl (fun _ => rfl) (fun _ => rfl) rfl) ?_
    refine GSteps.cons (gm_skip rfl (fun _ => rfl) (fun _ => rfl) rfl) ?_
    refine GSteps.cons (gm_val (v := .bool true) rfl (fun _ => rfl) (fun _ => rfl) (fun γ w h => ex_pick (r := true) rfl) rfl) ?_
    exact GSteps.nil
  intro _ w6 hb6 _ _
  refine th_r ?_
  have A7 := A2.keep hb6.out
  have A8 := A3.keep hb6.out
  have A9 := A4.keep hb6.out
  have HB10 := below_then HB5 hb6.out
  refine wp_cond_true rfl ?_
  refine wp_seq (region_m (F := fun _ => ⟨List.toArray ((sv [.n 6 (ax P.pt), .n 6 (ay P.pt), .b (ai P.pt)]) :: (sv [.n 6 x, .n 6 y, .b i]) :: (sv [.n 6 x2, .n 6 y2, .b i2]) :: (.pointer (some ⟨(γ1 0), 0, none⟩)) :: (.pointer (some ⟨(γ1 1), 0, none⟩)) :: (.pointer (some ⟨(γ1 2), 0, none⟩)) :: (.bool true) :: undef :: undef :: (sv [.n 6 (ax P.pt), .n 6 (ay P.pt), .b (ai P.pt)]) :: (.bool true) :: (.bool false) :: (.bool false) :: (sv [.n 6 x, .n 6 y, .b i]) :: (.bool false) :: (.bool true) :: (.bool true) :: (.bool true) :: undef :: undef :: undef :: (.bool true) :: (.bool true) :: undef :: undef :: undef :: undef :: undef :: undef :: undef :: undef :: undef :: undef :: undef :: undef :: undef :: undef :: undef :: undef :: undef :: undef :: undef :: undef :: undef :: undef :: undef :: undef :: undef :: undef :: undef :: undef :: undef :: undef :: undef :: undef :: undef :: undef :: undef :: undef :: undef :: undef :: undef :: undef :: undef :: undef :: undef :: undef :: undef :: undef :: undef :: undef :: undef :: undef :: undef :: undef :: undef :: undef :: undef :: undef :: undef :: undef :: undef :: undef :: undef :: []), []⟩) 0 (fun _ => 0) (fun _ => 0) (fun _ => 0) (fun _ => []) (fun _ => []) [22, 6] (.inr ⟨rfl, by kernel_rfl⟩) (by kernel_rfl) rfl rfl rfl ?_ ?_)
  · refine GSteps.cons (gm_call (v := .bool true) rfl (fun _ => rfl) (fun _ => rfl) (fun γ w => ex_call (vs := []) rfl Try.call10 rfl) (fun w h => onealive_v _) rfl) ?_
    refine GSteps.cons (gm_val (v := .bool true) rfl (fun _ => rfl) (fun _ => rfl) (fun γ w h => ex_assign _) rfl) ?_
    exact GSteps.nil
  intro _ w11 hb11 _ _
  refine th_r ?_
  have A12 := A7.keep hb11.out
  have A13 := A8.keep hb11.out
  have A14 := A9.keep hb11.out
  have HB15 := below_then HB10 hb11.out
  exact wp_ret (th_ret (bodyPost_ret (ret1 Try.results5 (res_tmp rfl)) rfl ⟨rfl, HB15⟩))

set_option maxRecDepth 20000 in
set_option maxHeartbeats 4000000 in
theorem oneGroup_3 (P Q : E1) (x : Nat) (y : Nat) (i : Bool) (hx : x < fpB) (hy : y < fpB) (h0 : ¬ RawOk x y i) (w : World) :
    Calls Try.prog 5 #[sv [.n 6 (ax P.pt), .n 6 (ay P.pt), .b (ai P.pt)], sv [.n 6 (ax Q.pt), .n 6 (ay Q.pt), .b (ai Q.pt)], sv [.n 6 x, .n 6 y, .b i]] w (Is (.bool true) w) := by
  go_enter Try.func5, Try.ntmps5
  refine wp_seq (region_m (F := fun γ => ⟨List.toArray ((sv [.n 6 (ax P.pt), .n 6 (ay P.pt), .b (ai P.pt)]) :: (sv [.n 6 (ax Q.pt), .n 6 (ay Q.pt), .b (ai Q.pt)]) :: (sv [.n 6 x, .n 6 y, .b i]) :: (.pointer (some ⟨γ 0, 0, none⟩)) :: (.pointer (some ⟨γ 1, 0, none⟩)) :: (.pointer (some ⟨γ 2, 0, none⟩)) :: (.bool false) :: undef :: undef :: undef :: undef :: undef :: undef :: undef :: undef :: undef :: undef :: undef :: undef :: undef :: undef :: undef :: undef :: undef :: undef :: undef :: undef :: undef :: undef :: undef :: undef :: undef :: undef :: undef :: undef :: undef :: undef :: undef :: undef :: undef :: undef :: undef :: undef :: undef :: undef :: undef :: undef :: undef :: undef :: undef :: undef :: undef :: undef :: undef :: undef :: undef :: undef :: undef :: undef :: undef :: undef :: undef :: undef :: undef :: undef :: undef :: undef :: undef :: undef :: undef :: undef :: undef :: undef :: undef :: undef :: undef :: undef :: undef :: undef :: undef :: undef :: undef :: undef :: undef :: []), []⟩) 3 (fun j_ => match j_ with | 0 => 26 | 1 => 26 | _ => 26) (fun j_ => match j_ with | 0 => 0 | 1 => 1 | _ => 2) (fun j_ => match j_ with | 0 => 0 | 1 => 1 | _ => 2) (fun j_ => match j_ with | 0 => segs [.n 6 (ax P.pt), .n 6 (ay P.pt), .b (ai P.pt)] | 1 => segs [.n 6 (ax Q.pt), .n 6 (ay Q.pt), .b (ai Q.pt)] | _ => segs [.n 6 x, .n 6 y, .b i]) (fun j_ => match j_ with | 0 => segs [.n 6 (ax P.pt), .n 6 (ay P.pt), .b (ai P.pt)] | 1 => segs [.n 6 (ax Q.pt), .n 6 (ay Q.pt), .b (ai Q.pt)] | _ => segs [.n 6 x, .n 6 y, .b i]) [3, 4, 5, 6] (.inr ⟨rfl, by kernel_rfl⟩) (by kernel_rfl) rfl rfl rfl ?_ ?_)
  · refine GSteps.cons (gm_box 0 rfl (fun _ => rfl) (fun _ _ => rfl) (fun γ w h => ex_boxs (l := [.n 6 (ax P.pt), .n 6 (ay P.pt), .b (ai P.pt)]) rfl) rfl rfl rfl) ?_
    refine GSteps.cons (gm_box 1 rfl (fun _ => rfl) (fun _ _ => rfl) (fun γ w h => ex_boxs (l := [.n 6 (ax Q.pt), .n 6 (ay Q.pt), .b (ai Q.pt)]) rfl) rfl rfl rfl) ?_
    refine GSteps.cons (gm_box 2 rfl (fun _ => rfl) (fun _ _ => rfl) (fun γ w h => ex_boxs (l := [.n 6 x, .n 6 y, .b i]) rfl) rfl rfl rfl) ?_
    refine GSteps.cons (gm_val (v := .bool false) rfl (fun _ => rfl) (fun _ => rfl) (fun γ w h => ex_assign _) rfl) ?_
    exact GSteps.nil
  intro γ1 w1 hb1 hB1 hn1
  refine th_r ?_
  have A2 : SB 26 w1 (γ1 0) [.n 6 (ax P.pt), .n 6 (ay P.pt), .b (ai P.pt)] := (hB1 0 (by decide)).2
  have le2 := (hB1 0 (by decide)).1
  have A3 : SB 26 w1 (γ1 1) [.n 6 (ax Q.pt), .n 6 (ay Q.pt), .b (ai Q.pt)] := (hB1 1 (by decide)).2
  have le3 := (hB1 1 (by decide)).1
  have A4 : SB 26 w1 (γ1 2) [.n 6 x, .n 6 y, .b i] := (hB1 2 (by decide)).2
  have le4 := (hB1 2 (by decide)).1
  have HB5 := below_then (Below.refl w.heap.size w) hb1.out
  refine wp_seq ?_
  refine wp_seq (region_m (F := fun _ => ⟨List.toArray ((sv [.n 6 (ax P.pt), .n 6 (ay P.pt), .b (ai P.pt)]) :: (sv [.n 6 (ax Q.pt), .n 6 (ay Q.pt), .b (ai Q.pt)]) :: (sv [.n 6 x, .n 6 y, .b i]) :: (.pointer (some ⟨(γ1 0), 0, none⟩)) :: (.pointer (some ⟨(γ1 1), 0, none⟩)) :: (.pointer (some ⟨(γ1 2), 0, none⟩)) :: (.bool false) :: undef :: undef :: (sv [.n 6 (ax P.pt), .n 6 (ay P.pt), .b (ai P.pt)]) :: (.bool true) :: (.bool false) :: (.bool false) :: (sv [.n 6 (ax Q.pt), .n 6 (ay Q.pt), .b (ai Q.pt)]) :: (.bool true) :: (.bool false) :: (.bool false) :: (.bool false) :: (sv [.n 6 x, .n 6 y, .b i]) :: (.bool false) :: (.bool true) :: (.bool true) :: undef :: undef :: undef :: undef :: undef :: undef :: undef :: undef :: undef :: undef :: undef :: undef :: undef :: undef :: undef :: undef :: undef :: undef :: undef :: undef :: undef :: undef :: undef :: undef :: undef :: undef :: undef :: undef :: undef :: undef :: undef :: undef :: undef :: undef :: undef :: undef :: undef :: undef :: undef :: undef :: undef :: undef :: undef :: undef :: undef :: undef :: undef :: undef :: undef :: undef :: undef :: undef :: undef :: undef :: undef :: undef :: undef :: undef :: undef :: undef :: undef :: undef :: []), []⟩) 0 (fun _ => 0) (fun _ => 0) (fun _ => 0) (fun _ => []) (fun _ => []) [9, 10, 11, 12, 13, 14, 15, 16, 17, 18, 19, 20, 21] (.inr ⟨rfl, by kernel_rfl⟩) (by kernel_rfl) rfl rfl rfl ?_ ?_)
  · refine GSteps.cons (gm_val (v := sv [.n 6 (ax P.pt), .n 6 (ay P.pt), .b (ai P.pt)]) rfl (fun _ => rfl) (fun _ => rfl) (fun γ w h => ex_loads 0 3 (m := [.n 6 (ax P.pt), .n 6 (ay P.pt), .b (ai P.pt)]) flG1 rfl rfl (A2.keep h.out) rfl rfl) rfl) ?_
    refine GSteps.cons (gm_call (v := .bool true) rfl (fun _ => rfl) (fun _ => rfl) (fun γ w => ex_call (vs := [sv [.n 6 (ax P.pt), .n 6 (ay P.pt), .b (ai P.pt)]]) rfl Try.call9 rfl) (fun w h => r8Right_p P _) rfl) ?_
    refine GSteps.cons (gm_val (v := .bool false) rfl (fun _ => rfl) (fun _ => rfl) (fun γ w h => ex_not (r := true) rfl) rfl) ?_
    refine GSteps.cons (gm_val (v := .bool false) rfl (fun _ => rfl) (fun _ => rfl) (fun γ w h => ex_move _) rfl) ?_
    refine GSteps.cons (gm_val (v := sv [.n 6 (ax Q.pt), .n 6 (ay Q.pt), .b (ai Q.pt)]) rfl (fun _ => rfl) (fun _ => rfl) (fun γ w h => ex_loads 0 3 (m := [.n 6 (ax Q.pt), .n 6 (ay Q.pt), .b (ai Q.pt)]) flG1 rfl rfl (A3.keep h.out) rfl rfl) rfl) ?_
    refine GSteps.cons (gm_call (v := .bool true) rfl (fun _ => rfl) (fun _ => rfl) (fun γ w => ex_call (vs := [sv [.n 6 (ax Q.pt), .n 6 (ay Q.pt), .b (ai Q.pt)]]) rfl Try.call9 rfl) (fun w h => r8Right_p Q _) rfl) ?_
    refine GSteps.cons (gm_val (v := .bool false) rfl (fun _ => rfl) (fun _ => rfl) (fun γ w h => ex_not (r := true) rfl) rfl) ?_
    refine GSteps.cons (gm_val (v := .bool false) rfl (fun _ => rfl) (fun _ => rfl) (fun γ w h => ex_pick (r := false) rfl) rfl) ?_
    refine GSteps.cons (gm_val (v := .bool false) rfl (fun _ => rfl) (fun _ => rfl) (fun γ w h => ex_move _) rfl) ?_
    refine GSteps.cons (gm_val (v := sv [.n 6 x, .n 6 y, .b i]) rfl (fun _ => rfl) (fun _ => rfl) (fun γ w h => ex_loads 0 3 (m := [.n 6 x, .n 6 y, .b i]) flG1 rfl rfl (A4.keep h.out) rfl rfl) rfl) ?_
    refine GSteps.cons (gm_call (v := .bool false) rfl (fun _ => rfl) (fun _ => rfl) (fun γ w => ex_call (vs := [sv [.n 6 x, .n 6 y, .b i]]) rfl Try.call9 rfl) (fun w h => r8Right_no hx hy h0 _) rfl) ?_
    refine GSteps.cons (gm_val (v := .bool true) rfl (fun _ => rfl) (fun _ => rfl) (fun γ w h => ex_not (r := false) rfl) rfl) ?_
    refine GSteps.cons (gm_val (v := .bool true) rfl (fun _ => rfl) (fun _ => rfl) (fun γ w h => ex_pick (r := false) rfl) rfl) ?_
    exact GSteps.nil
  intro _ w6 hb6 _ _
  refine th_r ?_
  have A7 := A2.keep hb6.out
  have A8 := A3.keep hb6.out
  have A9 := A4.keep hb6.out
  have HB10 := below_then HB5 hb6.out
  refine wp_cond_true rfl ?_
  refine wp_seq (region_m (F := fun _ => ⟨List.toArray ((sv [.n 6 (ax P.pt), .n 6 (ay P.pt), .b (ai P.pt)]) :: (sv [.n 6 (ax Q.pt), .n 6 (ay Q.pt), .b (ai Q.pt)]) :: (sv [.n 6 x, .n 6 y, .b i]) :: (.pointer (some ⟨(γ1 0), 0, none⟩)) :: (.pointer (some ⟨(γ1 1), 0, none⟩)) :: (.pointer (some ⟨(γ1 2), 0, none⟩)) :: (.bool true) :: undef :: undef :: (sv [.n 6 (ax P.pt), .n 6 (ay P.pt), .b (ai P.pt)]) :: (.bool true) :: (.bool false) :: (.bool false) :: (sv [.n 6 (ax Q.pt), .n 6 (ay Q.pt), .b (ai Q.pt)]) :: (.bool true) :: (.bool false) :: (.bool false) :: (.bool false) :: (sv [.n 6 x, .n 6 y, .b i]) :: (.bool false) :: (.bool true) :: (.bool true) :: (.bool true) :: undef :: undef :: undef :: undef :: undef :: undef :: undef :: undef :: undef :: undef :: undef :: undef :: undef :: undef :: undef :: undef :: undef :: undef :: undef :: undef :: undef :: undef :: undef :: undef :: undef :: undef :: undef :: undef :: undef :: undef :: undef :: undef :: undef :: undef :: undef :: undef :: undef :: undef :: undef :: undef :: undef :: undef :: undef :: undef :: undef :: undef :: undef :: undef :: undef :: undef :: undef :: undef :: undef :: undef :: undef :: undef :: undef :: undef :: undef :: undef :: undef :: []), []⟩) 0 (fun _ => 0) (fun _ => 0) (fun _ => 0) (fun _ => []) (fun _ => []) [22, 6] (.inr ⟨rfl, by kernel_rfl⟩) (by kernel_rfl) rfl rfl rfl ?_ ?_)
  · refine GSteps.cons (gm_call (v := .bool true) rfl (fun _ => rfl) (fun _ => rfl) (fun γ w => ex_call (vs := []) rfl Try.call10 rfl) (fun w h => onealive_v _) rfl) ?_
    refine GSteps.cons (gm_val (v := .bool true) rfl (fun _ => rfl) (fun _ => rfl) (fun γ w h => ex_assign _) rfl) ?_
    exact GSteps.nil
  intro _ w11 hb11 _ _
  refine th_r ?_
  have A12 := A7.keep hb11.out
  have A13 := A8.keep hb11.out
  have A14 := A9.keep hb11.out
  have HB15 := below_then HB10 hb11.out
  exact wp_ret (th_ret (bodyPost_ret (ret1 Try.results5 (res_tmp rfl)) rfl ⟨rfl, HB15⟩))

set_option maxRecDepth 20000 in
set_option maxHeartbeats 4000000 in
theorem oneGroup_4 (P Q S : E1) (w : World) :
    Calls Try.prog 5 #[sv [.n 6 (ax P.pt), .n 6 (ay P.pt), .b (ai P.pt)], sv [.n 6 (ax Q.pt), .n 6 (ay Q.pt), .b (ai Q.pt)], sv [.n 6 (ax S.pt), .n 6 (ay S.pt), .b (ai S.pt)]] w (Is (.bool true) w) := by
  obtain ⟨N, hN⟩ : ∃ q_ : E1, q_ = P.neg := ⟨_, rfl⟩
  obtain ⟨A, hA⟩ : ∃ q_ : E1, q_ = P.add C1 Q := ⟨_, rfl⟩
  obtain ⟨B, hB⟩ : ∃ q_ : E1, q_ = Q.add C1 S := ⟨_, rfl⟩
  obtain ⟨G, hG⟩ : ∃ q_ : E1, q_ = A.add C1 S := ⟨_, rfl⟩
  go_enter Try.func5, Try.ntmps5
  refine wp_seq (region_m (F := fun γ => ⟨List.toArray ((sv [.n 6 (ax P.pt), .n 6 (ay P.pt), .b (ai P.pt)]) :: (sv [.n 6 (ax Q.pt), .n 6 (ay Q.pt), .b (ai Q.pt)]) :: (sv [.n 6 (ax S.pt), .n 6 (ay S.pt), .b (ai S.pt)]) :: (.pointer (some ⟨γ 0, 0, none⟩)) :: (.pointer (some ⟨γ 1, 0, none⟩)) :: (.pointer (some ⟨γ 2, 0, none⟩)) :: (.bool false) :: undef :: undef :: undef :: undef :: undef :: undef :: undef :: undef :: undef :: undef :: undef :: undef :: undef :: undef :: undef :: undef :: undef :: undef :: undef :: undef :: undef :: undef :: undef :: undef :: undef :: undef :: undef :: undef :: undef :: undef :: undef :: undef :: undef :: undef :: undef :: undef :: undef :: undef :: undef :: undef :: undef :: undef :: undef :: undef :: undef :: undef :: undef :: undef :: undef :: undef :: undef :: undef :: undef :: undef :: undef :: undef :: undef :: undef :: undef :: undef :: undef :: undef :: undef :: undef :: undef :: undef :: undef :: undef :: undef :: undef :: undef :: undef :: undef :: undef :: undef :: undef :: undef :: []), []⟩) 3 (fun j_ => match j_ with | 0 => 26 | 1 => 26 | _ => 26) (fun j_ => match j_ with | 0 => 0 | 1 => 1 | _ => 2) (fun j_ => match j_ with | 0 => 0 | 1 => 1 | _ => 2) (fun j_ => match j_ with | 0 => segs [.n 6 (ax P.pt), .n 6 (ay P.pt), .b (ai P.pt)] | 1 => segs [.n 6 (ax Q.pt), .n 6 (ay Q.pt), .b (ai Q.pt)] | _ => segs [.n 6 (ax S.pt), .n 6 (ay S.pt), .b (ai S.pt)]) (fun j_ => match j_ with | 0 => segs [.n 6 (ax P.pt), .n 6 (ay P.pt), .b (ai P.pt)] | 1 => segs [.n 6 (ax Q.pt), .n 6 (ay Q.pt), .b (ai Q.pt)] | _ => segs [.n 6 (ax S.pt), .n 6 (ay S.pt), .b (ai S.pt)]) [3, 4, 5, 6] (.inr ⟨rfl, by kernel_rfl⟩) (by kernel_rfl) rfl rfl rfl ?_ ?_)
  · refine GSteps.cons (gm_box 0 rfl (fun _ => rfl) (fun _ _ => rfl) (fun γ w h => ex_boxs (l := [.n 6 (ax P.pt), .n 6 (ay P.pt), .b (ai P.pt)]) rfl) rfl rfl rfl) ?_
    refine GSteps.cons (gm_box 1 rfl (fun _ => rfl) (fun _ _ => rfl) (fun γ w h => ex_boxs (l := [.n 6 (ax Q.pt), .n 6 (ay Q.pt), .b (ai Q.pt)]) rfl) rfl rfl rfl) ?_
    refine GSteps.cons (gm_box 2 rfl (fun _ => rfl) (fun _ _ => rfl) (fun γ w h => ex_boxs (l := [.n 6 (ax S.pt), .n 6 (ay S.pt), .b (ai S.pt)]) rfl) rfl rfl rfl) ?_
    refine GSteps.cons (gm_val (v := .bool false) rfl (fun _ => rfl) (fun _ => rfl) (fun γ w h => ex_assign _) rfl) ?_
    exact GSteps.nil
  intro γ1 w1 hb1 hB1 hn1
  refine th_r ?_
  have A2 : SB 26 w1 (γ1 0) [.n 6 (ax P.pt), .n 6 (ay P.pt), .b (ai P.pt)] := (hB1 0 (by decide)).2
  have le2 := (hB1 0 (by decide)).1
  have A3 : SB 26 w1 (γ1 1) [.n 6 (ax Q.pt), .n 6 (ay Q.pt), .b (ai Q.pt)] := (hB1 1 (by decide)).2
  have le3 := (hB1 1 (by decide)).1
  have A4 : SB 26 w1 (γ1 2) [.n 6 (ax S.pt), .n 6 (ay S.pt), .b (ai S.pt)] := (hB1 2 (by decide)).2
  have le4 := (hB1 2 (by decide)).1
  have HB5 := below_then (Below.refl w.heap.size w) hb1.out
  refine wp_seq ?_
  refine wp_seq (region_m (F := fun _ => ⟨List.toArray ((sv [.n 6 (ax P.pt), .n 6 (ay P.pt), .b (ai P.pt)]) :: (sv [.n 6 (ax Q.pt), .n 6 (ay Q.pt), .b (ai Q.pt)]) :: (sv [.n 6 (ax S.pt), .n 6 (ay S.pt), .b (ai S.pt)]) :: (.pointer (some ⟨(γ1 0), 0, none⟩)) :: (.pointer (some ⟨(γ1 1), 0, none⟩)) :: (.pointer (some ⟨(γ1 2), 0, none⟩)) :: (.bool false) :: undef :: undef :: (sv [.n 6 (ax P.pt), .n 6 (ay P.pt), .b (ai P.pt)]) :: (.bool true) :: (.bool false) :: (.bool false) :: (sv [.n 6 (ax Q.pt), .n 6 (ay Q.pt), .b (ai Q.pt)]) :: (.bool true) :: (.bool false) :: (.bool false) :: (.bool false) :: (sv [.n 6 (ax S.pt), .n 6 (ay S.pt), .b (ai S.pt)]) :: (.bool true) :: (.bool false) :: (.bool false) :: undef :: undef :: undef :: undef :: undef :: undef :: undef :: undef :: undef :: undef :: undef :: undef :: undef :: undef :: undef :: undef :: undef :: undef :: undef :: undef :: undef :: undef :: undef :: undef :: undef :: undef :: undef :: undef :: undef :: undef :: undef :: undef :: undef :: undef :: undef :: undef :: undef :: undef :: undef :: undef :: undef :: undef :: undef :: undef :: undef :: undef :: undef :: undef :: undef :: undef :: undef :: undef :: undef :: undef :: undef :: undef :: undef :: undef :: undef :: undef :: undef :: undef :: []), []⟩) 0 (fun _ => 0) (fun _ => 0) (fun _ => 0) (fun _ => []) (fun _ => []) [9, 10, 11, 12, 13, 14, 15, 16, 17, 18, 19, 20, 21] (.inr ⟨rfl, by kernel_rfl⟩) (by kernel_rfl) rfl rfl rfl ?_ ?_)
  · refine GSteps.cons (gm_val (v := sv [.n 6 (ax P.pt), .n 6 (ay P.pt), .b (ai P.pt)]) rfl (fun _ => rfl) (fun _ => rfl) (fun γ w h => ex_loads 0 3 (m := [.n 6 (ax P.pt), .n 6 (ay P.pt), .b (ai P.pt)]) flG1 rfl rfl (A2.keep h.out) rfl rfl) rfl) ?_
    refine GSteps.cons (gm_call (v := .bool true) rfl (fun _ => rfl) (fun _ => rfl) (fun γ w => ex_call (vs := [sv [.n 6 (ax P.pt), .n 6 (ay P.pt), .b (ai P.pt)]]) rfl Try.call9 rfl) (fun w h => r8Right_p P _) rfl) ?_
    refine GSteps.cons (gm_val (v := .bool false) rfl (fun _ => rfl) (fun _ => rfl) (fun γ w h => ex_not (r := true) rfl) rfl) ?_
    refine GSteps.cons (gm_val (v := .bool false) rfl (fun _ => rfl) (fun _ => rfl) (fun γ w h => ex_move _) rfl) ?_
    refine GSteps.cons (gm_val (v := sv [.n 6 (ax Q.pt), .n 6 (ay Q.pt), .b (ai Q.pt)]) rfl (fun _ => rfl) (fun _ => rfl) (fun γ w h => ex_loads 0 3 (m := [.n 6 (ax Q.pt), .n 6 (ay Q.pt), .b (ai Q.pt)]) flG1 rfl rfl (A3.keep h.out) rfl rfl) rfl) ?_
    refine GSteps.cons (gm_call (v := .bool true) rfl (fun _ => rfl) (fun _ => rfl) (fun γ w => ex_call (vs := [sv [.n 6 (ax Q.pt), .n 6 (ay Q.pt), .b (ai Q.pt)]]) rfl Try.call9 rfl) (fun w h => r8Right_p Q _) rfl) ?_
    refine GSteps.cons (gm_val (v := .bool false) rfl (fun _ => rfl) (fun _ => rfl) (fun γ w h => ex_not (r := true) rfl) rfl) ?_
    refine GSteps.cons (gm_val (v := .bool false) rfl (fun _ => rfl) (fun _ => rfl) (fun γ w h => ex_pick (r := false) rfl) rfl) ?_
    refine GSteps.cons (gm_val (v := .bool false) rfl (fun _ => rfl) (fun _ => rfl) (fun γ w h => ex_move _) rfl) ?_
    refine GSteps.cons (gm_val (v := sv [.n 6 (ax S.pt), .n 6 (ay S.pt), .b (ai S.pt)]) rfl (fun _ => rfl) (fun _ => rfl) (fun γ w h => ex_loads 0 3 (m := [.n 6 (ax S.pt), .n 6 (ay S.pt), .b (ai S.pt)]) flG1 rfl rfl (A4.keep h.out) rfl rfl) rfl) ?_
    refine GSteps.cons (gm_call (v := .bool true) rfl (fun _ => rfl) (fun _ => rfl) (fun γ w => ex_call (vs := [sv [.n 6 (ax S.pt), .n 6 (ay S.pt), .b (ai S.pt)]]) rfl Try.call9 rfl) (fun w h => r8Right_p S _) rfl) ?_
    refine GSteps.cons (gm_val (v := .bool false) rfl (fun _ => rfl) (fun _ => rfl) (fun γ w h => ex_not (r := true) rfl) rfl) ?_
    refine GSteps.cons (gm_val (v := .bool false) rfl (fun _ => rfl) (fun _ => rfl) (fun γ w h => ex_pick (r := false) rfl) rfl) ?_
    exact GSteps.nil
  intro _ w6 hb6 _ _
  refine th_r ?_
  have A7 := A2.keep hb6.out
  have A8 := A3.keep hb6.out
  have A9 := A4.keep hb6.out
  have HB10 := below_then HB5 hb6.out
  refine wp_cond_false rfl ?_
  refine wp_skip ?_
  refine th_r ?_
  refine wp_seq (region_m (F := fun γ => ⟨List.toArray ((sv [.n 6 (ax P.pt), .n 6 (ay P.pt), .b (ai P.pt)]) :: (sv [.n 6 (ax Q.pt), .n 6 (ay Q.pt), .b (ai Q.pt)]) :: (sv [.n 6 (ax S.pt), .n 6 (ay S.pt), .b (ai S.pt)]) :: (.pointer (some ⟨(γ1 0), 0, none⟩)) :: (.pointer (some ⟨(γ1 1), 0, none⟩)) :: (.pointer (some ⟨(γ1 2), 0, none⟩)) :: (.bool false) :: (.pointer (some ⟨γ 0, 0, none⟩)) :: (.int .i64 0) :: (sv [.n 6 (ax P.pt), .n 6 (ay P.pt), .b (ai P.pt)]) :: (.bool true) :: (.bool false) :: (.bool false) :: (sv [.n 6 (ax Q.pt), .n 6 (ay Q.pt), .b (ai Q.pt)]) :: (.bool true) :: (.bool false) :: (.bool false) :: (.bool false) :: (sv [.n 6 (ax S.pt), .n 6 (ay S.pt), .b (ai S.pt)]) :: (.bool true) :: (.bool false) :: (.bool false) :: undef :: (.tuple #[sv [.n 6 (ax N.pt), .n 6 (ay N.pt), .b (ai N.pt)], .int .i64 0]) :: (sv [.n 6 (ax P.pt), .n 6 (ay P.pt), .b (ai P.pt)]) :: (.tuple #[sv [.n 6 (ax N.pt), .n 6 (ay N.pt), .b (ai N.pt)], .int .i64 0]) :: (sv [.n 6 (ax N.pt), .n 6 (ay N.pt), .b (ai N.pt)]) :: (.int .i64 0) :: undef :: undef :: undef :: undef :: undef :: undef :: undef :: undef :: undef :: undef :: undef :: undef :: undef :: undef :: undef :: undef :: undef :: undef :: undef :: undef :: undef :: undef :: undef :: undef :: undef :: undef :: undef :: undef :: undef :: undef :: undef :: undef :: undef :: undef :: undef :: undef :: undef :: undef :: undef :: undef :: undef :: undef :: undef :: undef :: undef :: undef :: undef :: undef :: undef :: undef :: undef :: undef :: undef :: undef :: undef :: undef :: []), []⟩) 1 (fun _ => 26) (fun _ => 5) (fun _ => 6) (fun _ => segs [.n 6 0, .n 6 0, .b false]) (fun _ => segs [.n 6 (ax N.pt), .n 6 (ay N.pt), .b (ai N.pt)]) [24, 25, 23, 26, 27, 7, 8] (.inr ⟨rfl, by kernel_rfl⟩) (by kernel_rfl) rfl rfl rfl ?_ ?_)
  · refine GSteps.cons (gm_val (v := sv [.n 6 (ax P.pt), .n 6 (ay P.pt), .b (ai P.pt)]) rfl (fun _ => rfl) (fun _ => rfl) (fun γ w h => ex_loads 0 3 (m := [.n 6 (ax P.pt), .n 6 (ay P.pt), .b (ai P.pt)]) flG1 rfl rfl (A7.keep h.out) rfl rfl) rfl) ?_
    refine GSteps.cons (gm_call (v := .tuple #[sv [.n 6 (ax N.pt), .n 6 (ay N.pt), .b (ai N.pt)], .int .i64 0]) rfl (fun _ => rfl) (fun _ => rfl) (fun γ w => ex_call (vs := [sv [.n 6 (ax P.pt), .n 6 (ay P.pt), .b (ai P.pt)]]) rfl Try.call16 rfl) (fun w h => oneNeg_q P N hN.symm _) rfl) ?_
    refine GSteps.cons (gm_val (v := .tuple #[sv [.n 6 (ax N.pt), .n 6 (ay N.pt), .b (ai N.pt)], .int .i64 0]) rfl (fun _ => rfl) (fun _ => rfl) (fun γ w h => ex_move _) rfl) ?_
    refine GSteps.cons (gm_val (v := sv [.n 6 (ax N.pt), .n 6 (ay N.pt), .b (ai N.pt)]) rfl (fun _ => rfl) (fun _ => rfl) (fun γ w h => ex_extract (vs := [sv [.n 6 (ax N.pt), .n 6 (ay N.pt), .b (ai N.pt)], .int .i64 0]) rfl rfl) rfl) ?_
    refine GSteps.cons (gm_val (v := .int .i64 0) rfl (fun _ => rfl) (fun _ => rfl) (fun γ w h => ex_extract (vs := [sv [.n 6 (ax N.pt), .n 6 (ay N.pt), .b (ai N.pt)], .int .i64 0]) rfl rfl) rfl) ?_
    refine GSteps.cons (gm_new 0 rfl (fun _ => rfl) (fun _ _ => rfl) (fun γ w => ex_allocs (l := [.n 6 0, .n 6 0, .b false]) zG1) rfl (by kernel_rfl)) ?_
    refine GSteps.cons (gm_store 0 rfl rfl (fun _ => rfl) (len_segs (l := [.n 6 (ax N.pt), .n 6 (ay N.pt), .b (ai N.pt)]) (l' := [.n 6 0, .n 6 0, .b false]) rfl) (fun γ w h => ex_stores 0 3 (l := [.n 6 0, .n 6 0, .b false]) (m := [.n 6 (ax N.pt), .n 6 (ay N.pt), .b (ai N.pt)]) flG1.2 rfl rfl rfl rfl h rfl rfl) rfl rfl (by kernel_rfl)) ?_
    refine GSteps.cons (gm_val (v := .int .i64 0) rfl (fun _ => rfl) (fun _ => rfl) (fun γ w h => ex_assign _) rfl) ?_
    exact GSteps.nil
  intro γ11 w11 hb11 hB11 _
  refine th_r ?_
  have A12 := A7.keep hb11.out
  have A13 := A8.keep hb11.out
  have A14 := A9.keep hb11.out
  have A15 : SB 26 w11 (γ11 0) [.n 6 (ax N.pt), .n 6 (ay N.pt), .b (ai N.pt)] := (hB11 0 (by decide)).2
  have le15 := (hB11 0 (by decide)).1
  have HB16 := below_then HB10 hb11.out
  refine wp_seq (region_m (F := fun _ => ⟨List.toArray ((sv [.n 6 (ax P.pt), .n 6 (ay P.pt), .b (ai P.pt)]) :: (sv [.n 6 (ax Q.pt), .n 6 (ay Q.pt), .b (ai Q.pt)]) :: (sv [.n 6 (ax S.pt), .n 6 (ay S.pt), .b (ai S.pt)]) :: (.pointer (some ⟨(γ1 0), 0, none⟩)) :: (.pointer (some ⟨(γ1 1), 0, none⟩)) :: (.pointer (some ⟨(γ1 2), 0, none⟩)) :: (.bool true) :: (.pointer (some ⟨(γ11 0), 0, none⟩)) :: (.int .i64 0) :: (sv [.n 6 (ax P.pt), .n 6 (ay P.pt), .b (ai P.pt)]) :: (.bool true) :: (.bool false) :: (.bool false) :: (sv [.n 6 (ax Q.pt), .n 6 (ay Q.pt), .b (ai Q.pt)]) :: (.bool true) :: (.bool false) :: (.bool false) :: (.bool false) :: (sv [.n 6 (ax S.pt), .n 6 (ay S.pt), .b (ai S.pt)]) :: (.bool true) :: (.bool false) :: (.bool false) :: undef :: (.tuple #[sv [.n 6 (ax N.pt), .n 6 (ay N.pt), .b (ai N.pt)], .int .i64 0]) :: (sv [.n 6 (ax P.pt), .n 6 (ay P.pt), .b (ai P.pt)]) :: (.tuple #[sv [.n 6 (ax N.pt), .n 6 (ay N.pt), .b (ai N.pt)], .int .i64 0]) :: (sv [.n 6 (ax N.pt), .n 6 (ay N.pt), .b (ai N.pt)]) :: (.int .i64 0) :: (.bool true) :: (.bool true) :: (.int .i64 0) :: (.bool true) :: (.bool true) :: (.bool true) :: (sv [.n 6 (ax P.pt), .n 6 (ay P.pt), .b (ai P.pt)]) :: (sv [.n 6 (ax Q.pt), .n 6 (ay Q.pt), .b (ai Q.pt)]) :: (sv [.n 6 (ax A.pt), .n 6 (ay A.pt), .b (ai A.pt)]) :: (sv [.n 6 (ax Q.pt), .n 6 (ay Q.pt), .b (ai Q.pt)]) :: (sv [.n 6 (ax P.pt), .n 6 (ay P.pt), .b (ai P.pt)]) :: (sv [.n 6 (ax A.pt), .n 6 (ay A.pt), .b (ai A.pt)]) :: (.bool true) :: (.bool true) :: (.bool true) :: (sv [.n 6 (ax P.pt), .n 6 (ay P.pt), .b (ai P.pt)]) :: (sv [.n 6 (ax Q.pt), .n 6 (ay Q.pt), .b (ai Q.pt)]) :: (sv [.n 6 (ax A.pt), .n 6 (ay A.pt), .b (ai A.pt)]) :: (sv [.n 6 (ax S.pt), .n 6 (ay S.pt), .b (ai S.pt)]) :: (sv [.n 6 (ax G.pt), .n 6 (ay G.pt), .b (ai G.pt)]) :: (sv [.n 6 (ax P.pt), .n 6 (ay P.pt), .b (ai P.pt)]) :: (sv [.n 6 (ax Q.pt), .n 6 (ay Q.pt), .b (ai Q.pt)]) :: (sv [.n 6 (ax S.pt), .n 6 (ay S.pt), .b (ai S.pt)]) :: (sv [.n 6 (ax B.pt), .n 6 (ay B.pt), .b (ai B.pt)]) :: (sv [.n 6 (ax G.pt), .n 6 (ay G.pt), .b (ai G.pt)]) :: (.bool true) :: (.bool true) :: (.bool true) :: (sv [.n 6 (ax P.pt), .n 6 (ay P.pt), .b (ai P.pt)]) :: (sv [.n 6 (ax Z1.pt), .n 6 (ay Z1.pt), .b (ai Z1.pt)]) :: (sv [.n 6 (ax P.pt), .n 6 (ay P.pt), .b (ai P.pt)]) :: (sv [.n 6 (ax P.pt), .n 6 (ay P.pt), .b (ai P.pt)]) :: (.bool true) :: (.bool true) :: (.bool true) :: (sv [.n 6 (ax P.pt), .n 6 (ay P.pt), .b (ai P.pt)]) :: (sv [.n 6 (ax N.pt), .n 6 (ay N.pt), .b (ai N.pt)]) :: (sv [.n 6 (ax Z1.pt), .n 6 (ay Z1.pt), .b (ai Z1.pt)]) :: (sv [.n 6 (ax Z1.pt), .n 6 (ay Z1.pt), .b (ai Z1.pt)]) :: (.bool true) :: (.bool true) :: (.bool true) :: (sv [.n 6 (ax P.pt), .n 6 (ay P.pt), .b (ai P.pt)]) :: (sv [.n 6 (ax Q.pt), .n 6 (ay Q.pt), .b (ai Q.pt)]) :: (sv [.n 6 (ax A.pt), .n 6 (ay A.pt), .b (ai A.pt)]) :: (sv [.n 6 (ax N.pt), .n 6 (ay N.pt), .b (ai N.pt)]) :: (sv [.n 6 (ax Q.pt), .n 6 (ay Q.pt), .b (ai Q.pt)]) :: (sv [.n 6 (ax Q.pt), .n 6 (ay Q.pt), .b (ai Q.pt)]) :: (.bool true) :: (.bool true) :: (.bool true) :: (sv [.n 6 (ax P.pt), .n 6 (ay P.pt), .b (ai P.pt)]) :: (sv [.n 6 (ax Q.pt), .n 6 (ay Q.pt), .b (ai Q.pt)]) :: (sv [.n 6 (ax A.pt), .n 6 (ay A.pt), .b (ai A.pt)]) :: (.bool true) :: (.bool true) :: []), []⟩) 0 (fun _ => 0) (fun _ => 0) (fun _ => 0) (fun _ => []) (fun _ => []) [28, 29, 30, 31, 32, 33, 34, 35, 36, 37, 38, 39, 40, 41, 42, 43, 44, 45, 46, 47, 48, 49, 50, 51, 52, 53, 54, 55, 56, 57, 58, 59, 60, 61, 62, 63, 64, 65, 66, 67, 68, 69, 70, 71, 72, 73, 74, 75, 76, 77, 78, 79, 80, 81, 82, 83, 6] (.inl ⟨rfl, by kernel_rfl⟩) (by kernel_rfl) rfl rfl rfl ?_ ?_)
  · refine GSteps.cons (gm_call (v := .bool true) rfl (fun _ => rfl) (fun _ => rfl) (fun γ w => ex_call (vs := []) rfl Try.call10 rfl) (fun w h => onealive_v _) rfl) ?_
    refine GSteps.cons (gm_val (v := .bool true) rfl (fun _ => rfl) (fun _ => rfl) (fun γ w h => ex_move _) rfl) ?_
    refine GSteps.cons (gm_val (v := .int .i64 0) rfl (fun _ => rfl) (fun _ => rfl) (fun γ w h => ex_move _) rfl) ?_
    refine GSteps.cons (gm_val (v := .bool true) rfl (fun _ => rfl) (fun _ => rfl) (fun γ w h => ex_eqi rfl rfl _ rfl) rfl) ?_
    refine GSteps.cons (gm_val (v := .bool true) rfl (fun _ => rfl) (fun _ => rfl) (fun γ w h => ex_pick (r := true) rfl) rfl) ?_
    refine GSteps.cons (gm_val (v := .bool true) rfl (fun _ => rfl) (fun _ => rfl) (fun γ w h => ex_move _) rfl) ?_
    refine GSteps.cons (gm_val (v := sv [.n 6 (ax P.pt), .n 6 (ay P.pt), .b (ai P.pt)]) rfl (fun _ => rfl) (fun _ => rfl) (fun γ w h => ex_loads 0 3 (m := [.n 6 (ax P.pt), .n 6 (ay P.pt), .b (ai P.pt)]) flG1 rfl rfl (A12.keep h.out) rfl rfl) rfl) ?_
    refine GSteps.cons (gm_val (v := sv [.n 6 (ax Q.pt), .n 6 (ay Q.pt), .b (ai Q.pt)]) rfl (fun _ => rfl) (fun _ => rfl) (fun γ w h => ex_loads 0 3 (m := [.n 6 (ax Q.pt), .n 6 (ay Q.pt), .b (ai Q.pt)]) flG1 rfl rfl (A13.keep h.out) rfl rfl) rfl) ?_
    refine GSteps.cons (gm_call (v := sv [.n 6 (ax A.pt), .n 6 (ay A.pt), .b (ai A.pt)]) rfl (fun _ => rfl) (fun _ => rfl) (fun γ w => ex_call (vs := [sv [.n 6 (ax P.pt), .n 6 (ay P.pt), .b (ai P.pt)], sv [.n 6 (ax Q.pt), .n 6 (ay Q.pt), .b (ai Q.pt)]]) rfl Try.call19 rfl) (fun w h => oneadd_v P Q A hA.symm _) rfl) ?_
    refine GSteps.cons (gm_val (v := sv [.n 6 (ax Q.pt), .n 6 (ay Q.pt), .b (ai Q.pt)]) rfl (fun _ => rfl) (fun _ => rfl) (fun γ w h => ex_loads 0 3 (m := [.n 6 (ax Q.pt), .n 6 (ay Q.pt), .b (ai Q.pt)]) flG1 rfl rfl (A13.keep h.out) rfl rfl) rfl) ?_
    refine GSteps.cons (gm_val (v := sv [.n 6 (ax P.pt), .n 6 (ay P.pt), .b (ai P.pt)]) rfl (fun _ => rfl) (fun _ => rfl) (fun γ w h => ex_loads 0 3 (m := [.n 6 (ax P.pt), .n 6 (ay P.pt), .b (ai P.pt)]) flG1 rfl rfl (A12.keep h.out) rfl rfl) rfl) ?_
    refine GSteps.cons (gm_call (v := sv [.n 6 (ax A.pt), .n 6 (ay A.pt), .b (ai A.pt)]) rfl (fun _ => rfl) (fun _ => rfl) (fun γ w => ex_call (vs := [sv [.n 6 (ax Q.pt), .n 6 (ay Q.pt), .b (ai Q.pt)], sv [.n 6 (ax P.pt), .n 6 (ay P.pt), .b (ai P.pt)]]) rfl Try.call19 rfl) (fun w h => oneadd_v Q P A ((EP.add_comm C1 Q P).trans hA.symm) _) rfl) ?_
    refine GSteps.cons (gm_val (v := .bool true) rfl (fun _ => rfl) (fun _ => rfl) (fun γ w h => ex_eqs gdG1 eqG1 rfl rfl rfl (shG1_of (ax_B A.pt) (ay_B A.pt)) (shG1_of (ax_B A.pt) (ay_B A.pt)) true (by simp)) rfl) ?_
    refine GSteps.cons (gm_val (v := .bool true) rfl (fun _ => rfl) (fun _ => rfl) (fun γ w h => ex_pick (r := true) rfl) rfl) ?_
    refine GSteps.cons (gm_val (v := .bool true) rfl (fun _ => rfl) (fun _ => rfl) (fun γ w h => ex_move _) rfl) ?_
    refine GSteps.cons (gm_val (v := sv [.n 6 (ax P.pt), .n 6 (ay P.pt), .b (ai P.pt)]) rfl (fun _ => rfl) (fun _ => rfl) (fun γ w h => ex_loads 0 3 (m := [.n 6 (ax P.pt), .n 6 (ay P.pt), .b (ai P.pt)]) flG1 rfl rfl (A12.keep h.out) rfl rfl) rfl) ?_
    refine GSteps.cons (gm_val (v := sv [.n 6 (ax Q.pt), .n 6 (ay Q.pt), .b (ai Q.pt)]) rfl (fun _ => rfl) (fun _ => rfl) (fun γ w h => ex_loads 0 3 (m := [.n 6 (ax Q.pt), .n 6 (ay Q.pt), .b (ai Q.pt)]) flG1 rfl rfl (A13.keep h.out) rfl rfl) rfl) ?_
    refine GSteps.cons (gm_call (v := sv [.n 6 (ax A.pt), .n 6 (ay A.pt), .b (ai A.pt)]) rfl (fun _ => rfl) (fun _ => rfl) (fun γ w => ex_call (vs := [sv [.n 6 (ax P.pt), .n 6 (ay P.pt), .b (ai P.pt)], sv [.n 6 (ax Q.pt), .n 6 (ay Q.pt), .b (ai Q.pt)]]) rfl Try.call19 rfl) (fun w h => oneadd_v P Q A hA.symm _) rfl) ?_
    refine GSteps.cons (gm_val (v := sv [.n 6 (ax S.pt), .n 6 (ay S.pt), .b (ai S.pt)]) rfl (fun _ => rfl) (fun _ => rfl) (fun γ w h => ex_loads 0 3 (m := [.n 6 (ax S.pt), .n 6 (ay S.pt), .b (ai S.pt)]) flG1 rfl rfl (A14.keep h.out) rfl rfl) rfl) ?_
    refine GSteps.cons (gm_call (v := sv [.n 6 (ax G.pt), .n 6 (ay G.pt), .b (ai G.pt)]) rfl (fun _ => rfl) (fun _ => rfl) (fun γ w => ex_call (vs := [sv [.n 6 (ax A.pt), .n 6 (ay A.pt), .b (ai A.pt)], sv [.n 6 (ax S.pt), .n 6 (ay S.pt), .b (ai S.pt)]]) rfl Try.call19 rfl) (fun w h => oneadd_v A S G hG.symm _) rfl) ?_
    refine GSteps.cons (gm_val (v := sv [.n 6 (ax P.pt), .n 6 (ay P.pt), .b (ai P.pt)]) rfl (fun _ => rfl) (fun _ => rfl) (fun γ w h => ex_loads 0 3 (m := [.n 6 (ax P.pt), .n 6 (ay P.pt), .b (ai P.pt)]) flG1 rfl rfl (A12.keep h.out) rfl rfl) rfl) ?_
    refine GSteps.cons (gm_val (v := sv [.n 6 (ax Q.pt), .n 6 (ay Q.pt), .b (ai Q.pt)]) rfl (fun _ => rfl) (fun _ => rfl) (fun γ w h => ex_loads 0 3 (m := [.n 6 (ax Q.pt), .n 6 (ay Q.pt), .b (ai Q.pt)]) flG1 rfl rfl (A13.keep h.out) rfl rfl) rfl) ?_
    refine GSteps.cons (gm_val (v := sv [.n 6 (ax S.pt), .n 6 (ay S.pt), .b (ai S.pt)]) rfl (fun _ => rfl) (fun _ => rfl) (fun γ w h => ex_loads 0 3 (m := [.n 6 (ax S.pt), .n 6 (ay S.pt), .b (ai S.pt)]) flG1 rfl rfl (A14.keep h.out) rfl rfl) rfl) ?_
    refine GSteps.cons (gm_call (v := sv [.n 6 (ax B.pt), .n 6 (ay B.pt), .b (ai B.pt)]) rfl (fun _ => rfl) (fun _ => rfl) (fun γ w => ex_call (vs := [sv [.n 6 (ax Q.pt), .n 6 (ay Q.pt), .b (ai Q.pt)], sv [.n 6 (ax S.pt), .n 6 (ay S.pt), .b (ai S.pt)]]) rfl Try.call19 rfl) (fun w h => oneadd_v Q S B hB.symm _) rfl) ?_
    refine GSteps.cons (gm_call (v := sv [.n 6 (ax G.pt), .n 6 (ay G.pt), .b (ai G.pt)]) rfl (fun _ => rfl) (fun _ => rfl) (fun γ w => ex_call (vs := [sv [.n 6 (ax P.pt), .n 6 (ay P.pt), .b (ai P.pt)], sv [.n 6 (ax B.pt), .n 6 (ay B.pt), .b (ai B.pt)]]) rfl Try.call19 rfl) (fun w h => oneadd_v P B G (by rw [hG, hB, hA, EP.add_assoc]) _) rfl) ?_
    refine GSteps.cons (gm_val (v := .bool true) rfl (fun _ => rfl) (fun _ => rfl) (fun γ w h => ex_eqs gdG1 eqG1 rfl rfl rfl (shG1_of (ax_B G.pt) (ay_B G.pt)) (shG1_of (ax_B G.pt) (ay_B G.pt)) true (by simp)) rfl) ?_
    refine GSteps.cons (gm_val (v := .bool true) rfl (fun _ => rfl) (fun _ => rfl) (fun γ w h => ex_pick (r := true) rfl) rfl) ?_
    refine GSteps.cons (gm_val (v := .bool true) rfl (fun _ => rfl) (fun _ => rfl) (fun γ w h => ex_move _) rfl) ?_
    refine GSteps.cons (gm_val (v := sv [.n 6 (ax P.pt), .n 6 (ay P.pt), .b (ai P.pt)]) rfl (fun _ => rfl) (fun _ => rfl) (fun γ w h => ex_loads 0 3 (m := [.n 6 (ax P.pt), .n 6 (ay P.pt), .b (ai P.pt)]) flG1 rfl rfl (A12.keep h.out) rfl rfl) rfl) ?_
    refine GSteps.cons (gm_call (v := sv [.n 6 (ax Z1.pt), .n 6 (ay Z1.pt), .b (ai Z1.pt)]) rfl (fun _ => rfl) (fun _ => rfl) (fun γ w => ex_call (vs := []) rfl Try.call14 rfl) (fun w h => oneZero_p _) rfl) ?_
    refine GSteps.cons (gm_call (v := sv [.n 6 (ax P.pt), .n 6 (ay P.pt), .b (ai P.pt)]) rfl (fun _ => rfl) (fun _ => rfl) (fun γ w => ex_call (vs := [sv [.n 6 (ax P.pt), .n 6 (ay P.pt), .b (ai P.pt)], sv [.n 6 (ax Z1.pt), .n 6 (ay Z1.pt), .b (ai Z1.pt)]]) rfl Try.call19 rfl) (fun w h => oneadd_v P Z1 P (EP.add_zero C1 P) _) rfl) ?_
    refine GSteps.cons (gm_val (v := sv [.n 6 (ax P.pt), .n 6 (ay P.pt), .b (ai P.pt)]) rfl (fun _ => rfl) (fun _ => rfl) (fun γ w h => ex_loads 0 3 (m := [.n 6 (ax P.pt), .n 6 (ay P.pt), .b (ai P.pt)]) flG1 rfl rfl (A12.keep h.out) rfl rfl) rfl) ?_
    refine GSteps.cons (gm_val (v := .bool true) rfl (fun _ => rfl) (fun _ => rfl) (fun γ w h => ex_eqs gdG1 eqG1 rfl rfl rfl (shG1_of (ax_B P.pt) (ay_B P.pt)) (shG1_of (ax_B P.pt) (ay_B P.pt)) true (by simp)) rfl) ?_
    refine GSteps.cons (gm_val (v := .bool true) rfl (fun _ => rfl) (fun _ => rfl) (fun γ w h => ex_pick (r := true) rfl) rfl) ?_
    refine GSteps.cons (gm_val (v := .bool true) rfl (fun _ => rfl) (fun _ => rfl) (fun γ w h => ex_move _) rfl) ?_
    refine GSteps.cons (gm_val (v := sv [.n 6 (ax P.pt), .n 6 (ay P.pt), .b (ai P.pt)]) rfl (fun _ => rfl) (fun _ => rfl) (fun γ w h => ex_loads 0 3 (m := [.n 6 (ax P.pt), .n 6 (ay P.pt), .b (ai P.pt)]) flG1 rfl rfl (A12.keep h.out) rfl rfl) rfl) ?_
    refine GSteps.cons (gm_val (v := sv [.n 6 (ax N.pt), .n 6 (ay N.pt), .b (ai N.pt)]) rfl (fun _ => rfl) (fun _ => rfl) (fun γ w h => ex_loads 0 3 (m := [.n 6 (ax N.pt), .n 6 (ay N.pt), .b (ai N.pt)]) flG1 rfl rfl (A15.keep h.out) rfl rfl) rfl) ?_
    refine GSteps.cons (gm_call (v := sv [.n 6 (ax Z1.pt), .n 6 (ay Z1.pt), .b (ai Z1.pt)]) rfl (fun _ => rfl) (fun _ => rfl) (fun γ w => ex_call (vs := [sv [.n 6 (ax P.pt), .n 6 (ay P.pt), .b (ai P.pt)], sv [.n 6 (ax N.pt), .n 6 (ay N.pt), .b (ai N.pt)]]) rfl Try.call19 rfl) (fun w h => oneadd_v P N Z1 (by rw [hN]; exact EP.add_neg C1 P) _) rfl) ?_
    refine GSteps.cons (gm_call (v := sv [.n 6 (ax Z1.pt), .n 6 (ay Z1.pt), .b (ai Z1.pt)]) rfl (fun _ => rfl) (fun _ => rfl) (fun γ w => ex_call (vs := []) rfl Try.call14 rfl) (fun w h => oneZero_p _) rfl) ?_
    refine GSteps.cons (gm_val (v := .bool true) rfl (fun _ => rfl) (fun _ => rfl) (fun γ w h => ex_eqs gdG1 eqG1 rfl rfl rfl (shG1_of (ax_B Z1.pt) (ay_B Z1.pt)) (shG1_of (ax_B Z1.pt) (ay_B Z1.pt)) true (by simp)) rfl) ?_
    refine GSteps.cons (gm_val (v := .bool true) rfl (fun _ => rfl) (fun _ => rfl) (fun γ w h => ex_pick (r := true) rfl) rfl) ?_
    refine GSteps.cons (gm_val (v := .bool true) rfl (fun _ => rfl) (fun _ => rfl) (fun γ w h => ex_move _) rfl) ?_
    refine GSteps.cons (gm_val (v := sv [.n 6 (ax P.pt), .n 6 (ay P.pt), .b (ai P.pt)]) rfl (fun _ => rfl) (fun _ => rfl) (fun γ w h => ex_loads 0 3 (m := [.n 6 (ax P.pt), .n 6 (ay P.pt), .b (ai P.pt)]) flG1 rfl rfl (A12.keep h.out) rfl rfl) rfl) ?_
    refine GSteps.cons (gm_val (v := sv [.n 6 (ax Q.pt), .n 6 (ay Q.pt), .b (ai Q.pt)]) rfl (fun _ => rfl) (fun _ => rfl) (fun γ w h => ex_loads 0 3 (m := [.n 6 (ax Q.pt), .n 6 (ay Q.pt), .b (ai Q.pt)]) flG1 rfl rfl (A13.keep h.out) rfl rfl) rfl) ?_
    refine GSteps.cons (gm_call (v := sv [.n 6 (ax A.pt), .n 6 (ay A.pt), .b (ai A.pt)]) rfl (fun _ => rfl) (fun _ => rfl) (fun γ w => ex_call (vs := [sv [.n 6 (ax P.pt), .n 6 (ay P.pt), .b (ai P.pt)], sv [.n 6 (ax Q.pt), .n 6 (ay Q.pt), .b (ai Q.pt)]]) rfl Try.call19 rfl) (fun w h => oneadd_v P Q A hA.symm _) rfl) ?_
    refine GSteps.cons (gm_val (v := sv [.n 6 (ax N.pt), .n 6 (ay N.pt), .b (ai N.pt)]) rfl (fun _ => rfl) (fun _ => rfl) (fun γ w h => ex_loads 0 3 (m := [.n 6 (ax N.pt), .n 6 (ay N.pt), .b (ai N.pt)]) flG1 rfl rfl (A15.keep h.out) rfl rfl) rfl) ?_
    refine GSteps.cons (gm_call (v := sv [.n 6 (ax Q.pt), .n 6 (ay Q.pt), .b (ai Q.pt)]) rfl (fun _ => rfl) (fun _ => rfl) (fun γ w => ex_call (vs := [sv [.n 6 (ax A.pt), .n 6 (ay A.pt), .b (ai A.pt)], sv [.n 6 (ax N.pt), .n 6 (ay N.pt), .b (ai N.pt)]]) rfl Try.call19 rfl) (fun w h => oneadd_v A N Q (by rw [hA, hN, EP.add_comm C1 P Q, EP.add_assoc, EP.add_neg, EP.add_zero]) _) rfl) ?_
    refine GSteps.cons (gm_val (v := sv [.n 6 (ax Q.pt), .n 6 (ay Q.pt), .b (ai Q.pt)]) rfl (fun _ => rfl) (fun _ => rfl) (fun γ w h => ex_loads 0 3 (m := [.n 6 (ax Q.pt), .n 6 (ay Q.pt), .b (ai Q.pt)]) flG1 rfl rfl (A13.keep h.out) rfl rfl) rfl) ?_
    refine GSteps.cons (gm_val (v := .bool true) rfl (fun _ => rfl) (fun _ => rfl) (fun γ w h => ex_eqs gdG1 eqG1 rfl rfl rfl (shG1_of (ax_B Q.pt) (ay_B Q.pt)) (shG1_of (ax_B Q.pt) (ay_B Q.pt)) true (by simp)) rfl) ?_
    refine GSteps.cons (gm_val (v := .bool true) rfl (fun _ => rfl) (fun _ => rfl) (fun γ w h => ex_pick (r := true) rfl) rfl) ?_
    refine GSteps.cons (gm_val (v := .bool true) rfl (fun _ => rfl) (fun _ => rfl) (fun γ w h => ex_move _) rfl) ?_
    refine GSteps.cons (gm_val (v := sv [.n 6 (ax P.pt), .n 6 (ay P.pt), .b (ai P.pt)]) rfl (fun _ => rfl) (fun _ => rfl) (fun γ w h => ex_loads 0 3 (m := [.n 6 (ax P.pt), .n 6 (ay P.pt), .b (ai P.pt)]) flG1 rfl rfl (A12.keep h.out) rfl rfl) rfl) ?_
    refine GSteps.cons (gm_val (v := sv [.n 6 (ax Q.pt), .n 6 (ay Q.pt), .b (ai Q.pt)]) rfl (fun _ => rfl) (fun _ => rfl) (fun γ w h => ex_loads 0 3 (m := [.n 6 (ax Q.pt), .n 6 (ay Q.pt), .b (ai Q.pt)]) flG1 rfl rfl (A13.keep h.out) rfl rfl) rfl) ?_
    refine GSteps.cons (gm_call (v := sv [.n 6 (ax A.pt), .n 6 (ay A.pt), .b (ai A.pt)]) rfl (fun _ => rfl) (fun _ => rfl) (fun γ w => ex_call (vs := [sv [.n 6 (ax P.pt), .n 6 (ay P.pt), .b (ai P.pt)], sv [.n 6 (ax Q.pt), .n 6 (ay Q.pt), .b (ai Q.pt)]]) rfl Try.call19 rfl) (fun w h => oneadd_v P Q A hA.symm _) rfl) ?_
    refine GSteps.cons (gm_call (v := .bool true) rfl (fun _ => rfl) (fun _ => rfl) (fun γ w => ex_call (vs := [sv [.n 6 (ax A.pt), .n 6 (ay A.pt), .b (ai A.pt)]]) rfl Try.call9 rfl) (fun w h => r8Right_p A _) rfl) ?_
    refine GSteps.cons (gm_val (v := .bool true) rfl (fun _ => rfl) (fun _ => rfl) (fun γ w h => ex_pick (r := true) rfl) rfl) ?_
    refine GSteps.cons (gm_val (v := .bool true) rfl (fun _ => rfl) (fun _ => rfl) (fun γ w h => ex_assign _) rfl) ?_
    exact GSteps.nil
  intro _ w17 hb17 _ _
  refine th_r ?_
  have A18 := A12.keep hb17.out
  have A19 := A13.keep hb17.out
  have A20 := A14.keep hb17.out
  have A21 := A15.keep hb17.out
  have HB22 := below_then HB16 hb17.out
  exact wp_ret (bodyPost_ret (ret1 Try.results5 (res_tmp rfl)) rfl ⟨rfl, HB22⟩)

theorem oneGroup_l (x : Nat) (y : Nat) (i : Bool) (x1 : Nat) (y1 : Nat) (i1 : Bool) (x2 : Nat) (y2 : Nat) (i2 : Bool) (hx : x < fpB) (hy : y < fpB) (hx1 : x1 < fpB) (hy1 : y1 < fpB) (hx2 : x2 < fpB) (hy2 : y2 < fpB) (w : World) :
    Calls Try.prog 5 #[sv [.n 6 x, .n 6 y, .b i], sv [.n 6 x1, .n 6 y1, .b i1], sv [.n 6 x2, .n 6 y2, .b i2]] w (Is (.bool true) w) := by
  by_cases o : RawOk x y i
  · obtain ⟨P, rfl, rfl, rfl⟩ := o
    by_cases o1 : RawOk x1 y1 i1
    · obtain ⟨Q, rfl, rfl, rfl⟩ := o1
      by_cases o2 : RawOk x2 y2 i2
      · obtain ⟨S, rfl, rfl, rfl⟩ := o2
        exact oneGroup_4 P Q S w
      · exact oneGroup_3 P Q x2 y2 i2 hx2 hy2 o2 w
    · exact oneGroup_2 P x1 y1 i1 hx1 hy1 o1 x2 y2 i2 w
  · exact oneGroup_1 x y i hx hy o x1 y1 i1 x2 y2 i2 w

end Go.Proofs.Yticglgegfebnjaa

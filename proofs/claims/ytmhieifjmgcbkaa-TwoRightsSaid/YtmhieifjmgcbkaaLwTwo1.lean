/- What is proved here: the laws of package two: sums and their order. -/
import Derived.Test.YtmhieifjmgcbkaaTwo3
namespace Go.Proofs.Ytmhieifjmgcbkaa
open Go.RowKit Cv

set_option maxRecDepth 20000 in
set_option maxHeartbeats 4000000 in
theorem twoalive_v (w : World) :
    Calls Try.prog 6 #[] w (Is (.bool true) w) := by
  go_enter Try.func6, Try.ntmps6
  refine wp_seq (region_m (F := fun _ => ⟨#[.bool false, undef, undef, undef, undef, undef, undef, undef, undef], []⟩) 0 (fun _ => 0) (fun _ => 0) (fun _ => 0) (fun _ => []) (fun _ => []) [0] (.inr ⟨rfl, by kernel_rfl⟩) (by kernel_rfl) rfl rfl rfl ?_ ?_)
  · refine GSteps.cons (gm_val (v := .bool false) rfl (fun _ => rfl) (fun _ => rfl) (fun γ w h => ex_assign _) rfl) ?_
    exact GSteps.nil
  intro _ w1 hb1 _ _
  refine th_r ?_
  have HB2 := below_then (Below.refl w.heap.size w) hb1.out
  refine wp_seq (region_m (F := fun _ => ⟨#[.bool true, sv [.n 6 g2xa, .n 6 g2xb, .n 6 g2ya, .n 6 g2yb, .b false], sv [.n 6 g2xa, .n 6 g2xb, .n 6 g2ya, .n 6 g2yb, .b false], .bool true, .bool true, sv [.n 6 0, .n 6 0, .n 6 0, .n 6 0, .b true], sv [.n 6 0, .n 6 0, .n 6 0, .n 6 0, .b true], .bool true, .bool true], []⟩) 0 (fun _ => 0) (fun _ => 0) (fun _ => 0) (fun _ => []) (fun _ => []) [1, 2, 3, 4, 5, 6, 7, 8, 0] (.inr ⟨rfl, by kernel_rfl⟩) (by kernel_rfl) rfl rfl rfl ?_ ?_)
  · refine GSteps.cons (gm_call (v := sv [.n 6 g2xa, .n 6 g2xb, .n 6 g2ya, .n 6 g2yb, .b false]) rfl (fun _ => rfl) (fun _ => rfl) (fun γ w => ex_call (vs := []) rfl Try.call9 rfl) (fun w h => twoGen_v _) rfl) ?_
    refine GSteps.cons (gm_call (v := sv [.n 6 g2xa, .n 6 g2xb, .n 6 g2ya, .n 6 g2yb, .b false]) rfl (fun _ => rfl) (fun _ => rfl) (fun γ w => ex_call (vs := [.int .i64 0]) rfl Try.call16 rfl) (fun w h => r9Some_v _) rfl) ?_
    refine GSteps.cons (gm_val (v := .bool true) rfl (fun _ => rfl) (fun _ => rfl) (fun γ w h => ex_eqs gdG2 eqG2 rfl rfl rfl (shG2_of g2xa_B g2xb_B g2ya_B g2yb_B) (shG2_of g2xa_B g2xb_B g2ya_B g2yb_B) true (by simp)) rfl) ?_
    refine GSteps.cons (gm_val (v := .bool true) rfl (fun _ => rfl) (fun _ => rfl) (fun γ w h => ex_move _) rfl) ?_
    refine GSteps.cons (gm_call (v := sv [.n 6 0, .n 6 0, .n 6 0, .n 6 0, .b true]) rfl (fun _ => rfl) (fun _ => rfl) (fun γ w => ex_call (vs := []) rfl Try.call10 rfl) (fun w h => twoZero_v _) rfl) ?_
    refine GSteps.cons (gm_val (v := sv [.n 6 0, .n 6 0, .n 6 0, .n 6 0, .b true]) rfl (fun _ => rfl) (fun _ => rfl) (fun γ w h => ex_builds stG2 (l := [.n 6 0, .n 6 0, .n 6 0, .n 6 0, .b true]) (vs := [(2, .bool true)]) rfl ((fills_cons 4 1 (m := [.b true]) (z' := [.n 6 0, .n 6 0, .n 6 0, .n 6 0, .b true]) rfl (bool_cells true) rfl rfl rfl rfl).trans rfl)) rfl) ?_
    refine GSteps.cons (gm_val (v := .bool true) rfl (fun _ => rfl) (fun _ => rfl) (fun γ w h => ex_eqs gdG2 eqG2 rfl rfl rfl (shG2_of zero_B zero_B zero_B zero_B) (shG2_of zero_B zero_B zero_B zero_B) true (by simp)) rfl) ?_
    refine GSteps.cons (gm_val (v := .bool true) rfl (fun _ => rfl) (fun _ => rfl) (fun γ w h => ex_pick (r := true) rfl) rfl) ?_
    refine GSteps.cons (gm_val (v := .bool true) rfl (fun _ => rfl) (fun _ => rfl) (fun γ w h => ex_assign _) rfl) ?_
    exact GSteps.nil
  intro _ w3 hb3 _ _
  refine th_r ?_
  have HB4 := below_then HB2 hb3.out
  exact wp_ret (bodyPost_ret (ret1 Try.results6 (res_tmp rfl)) rfl ⟨rfl, HB4⟩)

theorem times_Z2 (n : Nat) : EP.times C2 n Z2 = EP.zero := EP.times_zero C2 n

set_option maxRecDepth 20000 in
set_option maxHeartbeats 4000000 in
theorem twoRights_p (P : E2) (w : World) :
    Calls Try.prog 3 #[sv [.n 6 (bx0 P.pt), .n 6 (bx1 P.pt), .n 6 (by0 P.pt), .n 6 (by1 P.pt), .b (bi P.pt)]] w (Is (.bool true) w) := by
  go_enter Try.func3, Try.ntmps3
  refine wp_seq (region_m (F := fun γ => ⟨List.toArray ((sv [.n 6 (bx0 P.pt), .n 6 (bx1 P.pt), .n 6 (by0 P.pt), .n 6 (by1 P.pt), .b (bi P.pt)]) :: (.pointer (some ⟨γ 0, 0, none⟩)) :: (.bool false) :: undef :: undef :: undef :: undef :: undef :: undef :: undef :: undef :: undef :: undef :: undef :: undef :: undef :: undef :: undef :: undef :: undef :: undef :: undef :: undef :: undef :: undef :: undef :: undef :: undef :: undef :: undef :: undef :: undef :: undef :: []), []⟩) 1 (fun _ => 28) (fun _ => 0) (fun _ => 0) (fun _ => segs [.n 6 (bx0 P.pt), .n 6 (bx1 P.pt), .n 6 (by0 P.pt), .n 6 (by1 P.pt), .b (bi P.pt)]) (fun _ => segs [.n 6 (bx0 P.pt), .n 6 (bx1 P.pt), .n 6 (by0 P.pt), .n 6 (by1 P.pt), .b (bi P.pt)]) [1, 2] (.inr ⟨rfl, by kernel_rfl⟩) (by kernel_rfl) rfl rfl rfl ?_ ?_)
  · refine GSteps.cons (gm_box 0 rfl (fun _ => rfl) (fun _ _ => rfl) (fun γ w h => ex_boxs (l := [.n 6 (bx0 P.pt), .n 6 (bx1 P.pt), .n 6 (by0 P.pt), .n 6 (by1 P.pt), .b (bi P.pt)]) rfl) rfl rfl rfl) ?_
    refine GSteps.cons (gm_val (v := .bool false) rfl (fun _ => rfl) (fun _ => rfl) (fun γ w h => ex_assign _) rfl) ?_
    exact GSteps.nil
  intro γ1 w1 hb1 hB1 _
  refine th_r ?_
  have A2 : SB 28 w1 (γ1 0) [.n 6 (bx0 P.pt), .n 6 (bx1 P.pt), .n 6 (by0 P.pt), .n 6 (by1 P.pt), .b (bi P.pt)] := (hB1 0 (by decide)).2
  have le2 := (hB1 0 (by decide)).1
  have HB3 := below_then (Below.refl w.heap.size w) hb1.out
  refine wp_seq (region_m (F := fun _ => ⟨List.toArray ((sv [.n 6 (bx0 P.pt), .n 6 (bx1 P.pt), .n 6 (by0 P.pt), .n 6 (by1 P.pt), .b (bi P.pt)]) :: (.pointer (some ⟨(γ1 0), 0, none⟩)) :: (.bool false) :: (.bool true) :: (sv [.n 6 (bx0 P.pt), .n 6 (bx1 P.pt), .n 6 (by0 P.pt), .n 6 (by1 P.pt), .b (bi P.pt)]) :: (.bool true) :: undef :: undef :: undef :: undef :: undef :: undef :: undef :: undef :: undef :: undef :: undef :: undef :: undef :: undef :: undef :: undef :: undef :: undef :: undef :: undef :: undef :: undef :: undef :: undef :: undef :: undef :: undef :: []), []⟩) 0 (fun _ => 0) (fun _ => 0) (fun _ => 0) (fun _ => []) (fun _ => []) [4, 5, 3] (.inr ⟨rfl, by kernel_rfl⟩) (by kernel_rfl) rfl rfl rfl ?_ ?_)
  · refine GSteps.cons (gm_val (v := sv [.n 6 (bx0 P.pt), .n 6 (bx1 P.pt), .n 6 (by0 P.pt), .n 6 (by1 P.pt), .b (bi P.pt)]) rfl (fun _ => rfl) (fun _ => rfl) (fun γ w h => ex_loads 0 5 (m := [.n 6 (bx0 P.pt), .n 6 (bx1 P.pt), .n 6 (by0 P.pt), .n 6 (by1 P.pt), .b (bi P.pt)]) flG2 rfl rfl (A2.keep h.out) rfl rfl) rfl) ?_
    refine GSteps.cons (gm_call (v := .bool true) rfl (fun _ => rfl) (fun _ => rfl) (fun γ w => ex_call (vs := [sv [.n 6 (bx0 P.pt), .n 6 (bx1 P.pt), .n 6 (by0 P.pt), .n 6 (by1 P.pt), .b (bi P.pt)]]) rfl Try.call5 rfl) (fun w h => r9Right_p P _) rfl) ?_
    refine GSteps.cons (gm_val (v := .bool true) rfl (fun _ => rfl) (fun _ => rfl) (fun γ w h => ex_assign _) rfl) ?_
    exact GSteps.nil
  intro _ w4 hb4 _ _
  refine th_r ?_
  have A5 := A2.keep hb4.out
  have HB6 := below_then HB3 hb4.out
  refine wp_seq (region_m (F := fun _ => ⟨List.toArray ((sv [.n 6 (bx0 P.pt), .n 6 (bx1 P.pt), .n 6 (by0 P.pt), .n 6 (by1 P.pt), .b (bi P.pt)]) :: (.pointer (some ⟨(γ1 0), 0, none⟩)) :: (.bool true) :: (.bool true) :: (sv [.n 6 (bx0 P.pt), .n 6 (bx1 P.pt), .n 6 (by0 P.pt), .n 6 (by1 P.pt), .b (bi P.pt)]) :: (.bool true) :: (.bool true) :: (.bool true) :: (sv [.n 6 (bx0 P.pt), .n 6 (bx1 P.pt), .n 6 (by0 P.pt), .n 6 (by1 P.pt), .b (bi P.pt)]) :: (.bool true) :: (.bool true) :: (.bool true) :: (.bool true) :: (.bool true) :: (.bool true) :: (.bool true) :: undef :: undef :: undef :: (.bool true) :: (.bool true) :: (.bool true) :: (sv [.n 6 (bx0 G2.pt), .n 6 (bx1 G2.pt), .n 6 (by0 G2.pt), .n 6 (by1 G2.pt), .b (bi G2.pt)]) :: (.bool true) :: (.bool true) :: (.bool true) :: (sv [.n 6 (bx0 Z2.pt), .n 6 (bx1 Z2.pt), .n 6 (by0 Z2.pt), .n 6 (by1 Z2.pt), .b (bi Z2.pt)]) :: (.bool true) :: (.bool true) :: (.bool true) :: (sv [.n 6 (bx0 G2.pt), .n 6 (bx1 G2.pt), .n 6 (by0 G2.pt), .n 6 (by1 G2.pt), .b (bi G2.pt)]) :: (.bool true) :: (.bool true) :: []), []⟩) 0 (fun _ => 0) (fun _ => 0) (fun _ => 0) (fun _ => []) (fun _ => []) [6, 7, 8, 9, 10, 11, 12, 13, 14, 15, 16, 17, 18, 19, 20, 21, 22, 23, 24, 25, 26, 27, 28, 29, 30, 31, 32, 2] (.inr ⟨rfl, by kernel_rfl⟩) (by kernel_rfl) rfl rfl rfl ?_ ?_)
  · refine GSteps.cons (gm_call (v := .bool true) rfl (fun _ => rfl) (fun _ => rfl) (fun γ w => ex_call (vs := []) rfl Try.call6 rfl) (fun w h => twoalive_v _) rfl) ?_
    refine GSteps.cons (gm_val (v := .bool true) rfl (fun _ => rfl) (fun _ => rfl) (fun γ w h => ex_move _) rfl) ?_
    refine GSteps.cons (gm_val (v := sv [.n 6 (bx0 P.pt), .n 6 (bx1 P.pt), .n 6 (by0 P.pt), .n 6 (by1 P.pt), .b (bi P.pt)]) rfl (fun _ => rfl) (fun _ => rfl) (fun γ w h => ex_loads 0 5 (m := [.n 6 (bx0 P.pt), .n 6 (bx1 P.pt), .n 6 (by0 P.pt), .n 6 (by1 P.pt), .b (bi P.pt)]) flG2 rfl rfl (A5.keep h.out) rfl rfl) rfl) ?_
    refine GSteps.cons (gm_call (v := .bool true) rfl (fun _ => rfl) (fun _ => rfl) (fun γ w => ex_call (vs := [sv [.n 6 (bx0 P.pt), .n 6 (bx1 P.pt), .n 6 (by0 P.pt), .n 6 (by1 P.pt), .b (bi P.pt)]]) rfl Try.call7 rfl) (fun w h => twoRight_p P _) rfl) ?_
    refine GSteps.cons (gm_val (v := .bool true) rfl (fun _ => rfl) (fun _ => rfl) (fun γ w h => ex_move _) rfl) ?_
    refine GSteps.cons (gm_val (v := .bool true) rfl (fun _ => rfl) (fun _ => rfl) (fun γ w h => ex_eqb (a := true) (b := true) Try.underlying4 rfl rfl _ rfl) rfl) ?_
    refine GSteps.cons (gm_val (v := .bool true) rfl (fun _ => rfl) (fun _ => rfl) (fun γ w h => ex_pick (r := true) rfl) rfl) ?_
    refine GSteps.cons (gm_val (v := .bool true) rfl (fun _ => rfl) (fun _ => rfl) (fun γ w h => ex_move _) rfl) ?_
    refine GSteps.cons (gm_val (v := .bool true) rfl (fun _ => rfl) (fun _ => rfl) (fun γ w h => ex_move _) rfl) ?_
    refine GSteps.cons (gm_val (v := .bool true) rfl (fun _ => rfl) (fun _ => rfl) (fun γ w h => ex_move _) rfl) ?_
    refine GSteps.cons (gm_skip rfl (fun _ => rfl) (fun _ => rfl) rfl) ?_
    refine GSteps.cons (gm_skip rfl (fun _ => rfl) (fun _ => rfl) rfl) ?_
    refine GSteps.cons (gm_skip rfl (fun _ => rfl) (fun _ => rfl) rfl) ?_
    refine GSteps.cons (gm_val (v := .bool true) rfl (fun _ => rfl) (fun _ => rfl) (fun γ w h => ex_pick (r := true) rfl) rfl) ?_
    refine GSteps.cons (gm_val (v := .bool true) rfl (fun _ => rfl) (fun _ => rfl) (fun γ w h => ex_pick (r := true) rfl) rfl) ?_
    refine GSteps.cons (gm_val (v := .bool true) rfl (fun _ => rfl) (fun _ => rfl) (fun γ w h => ex_move _) rfl) ?_
    refine GSteps.cons (gm_call (v := sv [.n 6 (bx0 G2.pt), .n 6 (bx1 G2.pt), .n 6 (by0 G2.pt), .n 6 (by1 G2.pt), .b (bi G2.pt)]) rfl (fun _ => rfl) (fun _ => rfl) (fun γ w => ex_call (vs := []) rfl Try.call9 rfl) (fun w h => twoGen_p _) rfl) ?_
    refine GSteps.cons (gm_call (v := .bool true) rfl (fun _ => rfl) (fun _ => rfl) (fun γ w => ex_call (vs := [sv [.n 6 (bx0 G2.pt), .n 6 (bx1 G2.pt), .n 6 (by0 G2.pt), .n 6 (by1 G2.pt), .b (bi G2.pt)]]) rfl Try.call8 rfl) (fun w h => twoGroup_q G2 true ⟨fun _ => g2_order, fun _ => rfl⟩ _) rfl) ?_
    refine GSteps.cons (gm_val (v := .bool true) rfl (fun _ => rfl) (fun _ => rfl) (fun γ w h => ex_pick (r := true) rfl) rfl) ?_
    refine GSteps.cons (gm_val (v := .bool true) rfl (fun _ => rfl) (fun _ => rfl) (fun γ w h => ex_move _) rfl) ?_
    refine GSteps.cons (gm_call (v := sv [.n 6 (bx0 Z2.pt), .n 6 (bx1 Z2.pt), .n 6 (by0 Z2.pt), .n 6 (by1 Z2.pt), .b (bi Z2.pt)]) rfl (fun _ => rfl) (fun _ => rfl) (fun γ w => ex_call (vs := []) rfl Try.call10 rfl) (fun w h => twoZero_p _) rfl) ?_
    refine GSteps.cons (gm_call (v := .bool true) rfl (fun _ => rfl) (fun _ => rfl) (fun γ w => ex_call (vs := [sv [.n 6 (bx0 Z2.pt), .n 6 (bx1 Z2.pt), .n 6 (by0 Z2.pt), .n 6 (by1 Z2.pt), .b (bi Z2.pt)]]) rfl Try.call8 rfl) (fun w h => twoGroup_q Z2 true ⟨fun _ => times_Z2 rN, fun _ => rfl⟩ _) rfl) ?_
    refine GSteps.cons (gm_val (v := .bool true) rfl (fun _ => rfl) (fun _ => rfl) (fun γ w h => ex_pick (r := true) rfl) rfl) ?_
    refine GSteps.cons (gm_val (v := .bool true) rfl (fun _ => rfl) (fun _ => rfl) (fun γ w h => ex_move _) rfl) ?_
    refine GSteps.cons (gm_call (v := sv [.n 6 (bx0 G2.pt), .n 6 (bx1 G2.pt), .n 6 (by0 G2.pt), .n 6 (by1 G2.pt), .b (bi G2.pt)]) rfl (fun _ => rfl) (fun _ => rfl) (fun γ w => ex_call (vs := []) rfl Try.call9 rfl) (fun w h => twoGen_p _) rfl) ?_
    refine GSteps.cons (gm_call (v := .bool true) rfl (fun _ => rfl) (fun _ => rfl) (fun γ w => ex_call (vs := [sv [.n 6 (bx0 G2.pt), .n 6 (bx1 G2.pt), .n 6 (by0 G2.pt), .n 6 (by1 G2.pt), .b (bi G2.pt)]]) rfl Try.call7 rfl) (fun w h => twoRight_p G2 _) rfl) ?_
    refine GSteps.cons (gm_val (v := .bool true) rfl (fun _ => rfl) (fun _ => rfl) (fun γ w h => ex_pick (r := true) rfl) rfl) ?_
    refine GSteps.cons (gm_val (v := .bool true) rfl (fun _ => rfl) (fun _ => rfl) (fun γ w h => ex_assign _) rfl) ?_
    exact GSteps.nil
  intro _ w7 hb7 _ _
  refine th_r ?_
  have A8 := A5.keep hb7.out
  have HB9 := below_then HB6 hb7.out
  exact wp_ret (bodyPost_ret (ret1 Try.results3 (res_tmp rfl)) rfl ⟨rfl, HB9⟩)

set_option maxRecDepth 20000 in
set_option maxHeartbeats 4000000 in
theorem twoRights_n (x0 : Nat) (x1 : Nat) (y0 : Nat) (y1 : Nat) (i : Bool) (hx0 : x0 < fpB) (hx1 : x1 < fpB) (hy0 : y0 < fpB) (hy1 : y1 < fpB) (h0 : ¬ RawOk2 x0 x1 y0 y1 i) (w : World) :
    Calls Try.prog 3 #[sv [.n 6 x0, .n 6 x1, .n 6 y0, .n 6 y1, .b i]] w (Is (.bool true) w) := by
  go_enter Try.func3, Try.ntmps3
  refine wp_seq (region_m (F := fun γ => ⟨List.toArray ((sv [.n 6 x0, .n 6 x1, .n 6 y0, .n 6 y1, .b i]) :: (.pointer (some ⟨γ 0, 0, none⟩)) :: (.bool false) :: undef :: undef :: undef :: undef :: undef :: undef :: undef :: undef :: undef :: undef :: undef :: undef :: undef :: undef :: undef :: undef :: undef :: undef :: undef :: undef :: undef :: undef :: undef :: undef :: undef :: undef :: undef :: undef :: undef :: undef :: []), []⟩) 1 (fun _ => 28) (fun _ => 0) (fun _ => 0) (fun _ => segs [.n 6 x0, .n 6 x1, .n 6 y0, .n 6 y1, .b i]) (fun _ => segs [.n 6 x0, .n 6 x1, .n 6 y0, .n 6 y1, .b i]) [1, 2] (.inr ⟨rfl, by kernel_rfl⟩) (by kernel_rfl) rfl rfl rfl ?_ ?_)
  · refine GSteps.cons (gm_box 0 rfl (fun _ => rfl) (fun _ _ => rfl) (fun γ w h => ex_boxs (l := [.n 6 x0, .n 6 x1, .n 6 y0, .n 6 y1, .b i]) rfl) rfl rfl rfl) ?_
    refine GSteps.cons (gm_val (v := .bool false) rfl (fun _ => rfl) (fun _ => rfl) (fun γ w h => ex_assign _) rfl) ?_
    exact GSteps.nil
  intro γ1 w1 hb1 hB1 _
  refine th_r ?_
  have A2 : SB 28 w1 (γ1 0) [.n 6 x0, .n 6 x1, .n 6 y0, .n 6 y1, .b i] := (hB1 0 (by decide)).2
  have le2 := (hB1 0 (by decide)).1
  have HB3 := below_then (Below.refl w.heap.size w) hb1.out
  refine wp_seq (region_m (F := fun _ => ⟨List.toArray ((sv [.n 6 x0, .n 6 x1, .n 6 y0, .n 6 y1, .b i]) :: (.pointer (some ⟨(γ1 0), 0, none⟩)) :: (.bool false) :: (.bool false) :: (sv [.n 6 x0, .n 6 x1, .n 6 y0, .n 6 y1, .b i]) :: (.bool false) :: undef :: undef :: undef :: undef :: undef :: undef :: undef :: undef :: undef :: undef :: undef :: undef :: undef :: undef :: undef :: undef :: undef :: undef :: undef :: undef :: undef :: undef :: undef :: undef :: undef :: undef :: undef :: []), []⟩) 0 (fun _ => 0) (fun _ => 0) (fun _ => 0) (fun _ => []) (fun _ => []) [4, 5, 3] (.inr ⟨rfl, by kernel_rfl⟩) (by kernel_rfl) rfl rfl rfl ?_ ?_)
  · refine GSteps.cons (gm_val (v := sv [.n 6 x0, .n 6 x1, .n 6 y0, .n 6 y1, .b i]) rfl (fun _ => rfl) (fun _ => rfl) (fun γ w h => ex_loads 0 5 (m := [.n 6 x0, .n 6 x1, .n 6 y0, .n 6 y1, .b i]) flG2 rfl rfl (A2.keep h.out) rfl rfl) rfl) ?_
    refine GSteps.cons (gm_call (v := .bool false) rfl (fun _ => rfl) (fun _ => rfl) (fun γ w => ex_call (vs := [sv [.n 6 x0, .n 6 x1, .n 6 y0, .n 6 y1, .b i]]) rfl Try.call5 rfl) (fun w h => r9Right_no hx0 hx1 hy0 hy1 h0 _) rfl) ?_
    refine GSteps.cons (gm_val (v := .bool false) rfl (fun _ => rfl) (fun _ => rfl) (fun γ w h => ex_assign _) rfl) ?_
    exact GSteps.nil
  intro _ w4 hb4 _ _
  refine th_r ?_
  have A5 := A2.keep hb4.out
  have HB6 := below_then HB3 hb4.out
  refine wp_seq (region_m (F := fun _ => ⟨List.toArray ((sv [.n 6 x0, .n 6 x1, .n 6 y0, .n 6 y1, .b i]) :: (.pointer (some ⟨(γ1 0), 0, none⟩)) :: (.bool true) :: (.bool false) :: (sv [.n 6 x0, .n 6 x1, .n 6 y0, .n 6 y1, .b i]) :: (.bool false) :: (.bool true) :: (.bool true) :: (sv [.n 6 x0, .n 6 x1, .n 6 y0, .n 6 y1, .b i]) :: (.bool false) :: (.bool false) :: (.bool true) :: (.bool true) :: (.bool true) :: (.bool false) :: (.bool false) :: (sv [.n 6 x0, .n 6 x1, .n 6 y0, .n 6 y1, .b i]) :: (.bool false) :: (.bool true) :: (.bool true) :: (.bool true) :: (.bool true) :: (sv [.n 6 (bx0 G2.pt), .n 6 (bx1 G2.pt), .n 6 (by0 G2.pt), .n 6 (by1 G2.pt), .b (bi G2.pt)]) :: (.bool true) :: (.bool true) :: (.bool true) :: (sv [.n 6 (bx0 Z2.pt), .n 6 (bx1 Z2.pt), .n 6 (by0 Z2.pt), .n 6 (by1 Z2.pt), .b (bi Z2.pt)]) :: (.bool true) :: (.bool true) :: (.bool true) :: (sv [.n 6 (bx0 G2.pt), .n 6 (bx1 G2.pt), .n 6 (by0 G2.pt), .n 6 (by1 G2.pt), .b (bi G2.pt)]) :: (.bool true) :: (.bool true) :: []), []⟩) 0 (fun _ => 0) (fun _ => 0) (fun _ => 0) (fun _ => []) (fun _ => []) [6, 7, 8, 9, 10, 11, 12, 13, 14, 15, 16, 17, 18, 19, 20, 21, 22, 23, 24, 25, 26, 27, 28, 29, 30, 31, 32, 2] (.inr ⟨rfl, by kernel_rfl⟩) (by kernel_rfl) rfl rfl rfl ?_ ?_)
  · refine GSteps.cons (gm_call (v := .bool true) rfl (fun _ => rfl) (fun _ => rfl) (fun γ w => ex_call (vs := []) rfl Try.call6 rfl) (fun w h => twoalive_v _) rfl) ?_
    refine GSteps.cons (gm_val (v := .bool true) rfl (fun _ => rfl) (fun _ => rfl) (fun γ w h => ex_move _) rfl) ?_
    refine GSteps.cons (gm_val (v := sv [.n 6 x0, .n 6 x1, .n 6 y0, .n 6 y1, .b i]) rfl (fun _ => rfl) (fun _ => rfl) (fun γ w h => ex_loads 0 5 (m := [.n 6 x0, .n 6 x1, .n 6 y0, .n 6 y1, .b i]) flG2 rfl rfl (A5.keep h.out) rfl rfl) rfl) ?_
    refine GSteps.cons (gm_call (v := .bool false) rfl (fun _ => rfl) (fun _ => rfl) (fun γ w => ex_call (vs := [sv [.n 6 x0, .n 6 x1, .n 6 y0, .n 6 y1, .b i]]) rfl Try.call7 rfl) (fun w h => twoRight_no hx0 hx1 hy0 hy1 h0 _) rfl) ?_
    refine GSteps.cons (gm_val (v := .bool false) rfl (fun _ => rfl) (fun _ => rfl) (fun γ w h => ex_move _) rfl) ?_
    refine GSteps.cons (gm_val (v := .bool true) rfl (fun _ => rfl) (fun _ => rfl) (fun γ w h => ex_eqb (a := false) (b := false) Try.underlying4 rfl rfl _ rfl) rfl) ?_
    refine GSteps.cons (gm_val (v := .bool true) rfl (fun _ => rfl) (fun _ => rfl) (fun γ w h => ex_pick (r := true) rfl) rfl) ?_
    refine GSteps.cons (gm_val (v := .bool true) rfl (fun _ => rfl) (fun _ => rfl) (fun γ w h => ex_move _) rfl) ?_
    refine GSteps.cons (gm_val (v := .bool false) rfl (fun _ => rfl) (fun _ => rfl) (fun γ w h => ex_move _) rfl) ?_
    refine GSteps.cons (gm_val (v := .bool false) rfl (fun _ => rfl) (fun _ => rfl) (fun γ w h => ex_move _) rfl) ?_
    refine GSteps.cons (gm_val (v := sv [.n 6 x0, .n 6 x1, .n 6 y0, .n 6 y1, .b i]) rfl (fun _ => rfl) (fun _ => rfl) (fun γ w h => ex_loads 0 5 (m := [.n 6 x0, .n 6 x1, .n 6 y0, .n 6 y1, .b i]) flG2 rfl rfl (A5.keep h.out) rfl rfl) rfl) ?_
    refine GSteps.cons (gm_call (v := .bool false) rfl (fun _ => rfl) (fun _ => rfl) (fun γ w => ex_call (vs := [sv [.n 6 x0, .n 6 x1, .n 6 y0, .n 6 y1, .b i]]) rfl Try.call8 rfl) (fun w h => twoGroup_n x0 x1 y0 y1 i hx0 hx1 hy0 hy1 h0 _) rfl) ?_
    refine GSteps.cons (gm_val (v := .bool true) rfl (fun _ => rfl) (fun _ => rfl) (fun γ w h => ex_not (r := false) rfl) rfl) ?_
    refine GSteps.cons (gm_val (v := .bool true) rfl (fun _ => rfl) (fun _ => rfl) (fun γ w h => ex_pick (r := false) rfl) rfl) ?_
    refine GSteps.cons (gm_val (v := .bool true) rfl (fun _ => rfl) (fun _ => rfl) (fun γ w h => ex_pick (r := true) rfl) rfl) ?_
    refine GSteps.cons (gm_val (v := .bool true) rfl (fun _ => rfl) (fun _ => rfl) (fun γ w h => ex_move _) rfl) ?_
    refine GSteps.cons (gm_call (v := sv [.n 6 (bx0 G2.pt), .n 6 (bx1 G2.pt), .n 6 (by0 G2.pt), .n 6 (by1 G2.pt), .b (bi G2.pt)]) rfl (fun _ => rfl) (fun _ => rfl) (fun γ w => ex_call (vs := []) rfl Try.call9 rfl) (fun w h => twoGen_p _) rfl) ?_
    refine GSteps.cons (gm_call (v := .bool true) rfl (fun _ => rfl) (fun _ => rfl) (fun γ w => ex_call (vs := [sv [.n 6 (bx0 G2.pt), .n 6 (bx1 G2.pt), .n 6 (by0 G2.pt), .n 6 (by1 G2.pt), .b (bi G2.pt)]]) rfl Try.call8 rfl) (fun w h => twoGroup_q G2 true ⟨fun _ => g2_order, fun _ => rfl⟩ _) rfl) ?_
    refine GSteps.cons (gm_val (v := .bool true) rfl (fun _ => rfl) (fun _ => rfl) (fun γ w h => ex_pick (r := true) rfl) rfl) ?_
    refine GSteps.cons (gm_val (v := .bool true) rfl (fun _ => rfl) (fun _ => rfl) (fun γ w h => ex_move _) rfl) ?_
    refine GSteps.cons (gm_call (v := sv [.n 6 (bx0 Z2.pt), .n 6 (bx1 Z2.pt), .n 6 (by0 Z2.pt), .n 6 (by1 Z2.pt), .b (bi Z2.pt)]) rfl (fun _ => rfl) (fun _ => rfl) (fun γ w => ex_call (vs := []) rfl Try.call10 rfl) (fun w h => twoZero_p _) rfl) ?_
    refine GSteps.cons (gm_call (v := .bool true) rfl (fun _ => rfl) (fun _ => rfl) (fun γ w => ex_call (vs := [sv [.n 6 (bx0 Z2.pt), .n 6 (bx1 Z2.pt), .n 6 (by0 Z2.pt), .n 6 (by1 Z2.pt), .b (bi Z2.pt)]]) rfl Try.call8 rfl) (fun w h => twoGroup_q Z2 true ⟨fun _ => times_Z2 rN, fun _ => rfl⟩ _) rfl) ?_
    refine GSteps.cons (gm_val (v := .bool true) rfl (fun _ => rfl) (fun _ => rfl) (fun γ w h => ex_pick (r := true) rfl) rfl) ?_
    refine GSteps.cons (gm_val (v := .bool true) rfl (fun _ => rfl) (fun _ => rfl) (fun γ w h => ex_move _) rfl) ?_
    refine GSteps.cons (gm_call (v := sv [.n 6 (bx0 G2.pt), .n 6 (bx1 G2.pt), .n 6 (by0 G2.pt), .n 6 (by1 G2.pt), .b (bi G2.pt)]) rfl (fun _ => rfl) (fun _ => rfl) (fun γ w => ex_call (vs := []) rfl Try.call9 rfl) (fun w h => twoGen_p _) rfl) ?_
    refine GSteps.cons (gm_call (v := .bool true) rfl (fun _ => rfl) (fun _ => rfl) (fun γ w => ex_call (vs := [sv [.n 6 (bx0 G2.pt), .n 6 (bx1 G2.pt), .n 6 (by0 G2.pt), .n 6 (by1 G2.pt), .b (bi G2.pt)]]) rfl Try.call7 rfl) (fun w h => twoRight_p G2 _) rfl) ?_
    refine GSteps.cons (gm_val (v := .bool true) rfl (fun _ => rfl) (fun _ => rfl) (fun γ w h => ex_pick (r := true) rfl) rfl) ?_
    refine GSteps.cons (gm_val (v := .bool true) rfl (fun _ => rfl) (fun _ => rfl) (fun γ w h => ex_assign _) rfl) ?_
    exact GSteps.nil
  intro _ w7 hb7 _ _
  refine th_r ?_
  have A8 := A5.keep hb7.out
  have HB9 := below_then HB6 hb7.out
  exact wp_ret (bodyPost_ret (ret1 Try.results3 (res_tmp rfl)) rfl ⟨rfl, HB9⟩)

theorem twoRights_v (x0 : Nat) (x1 : Nat) (y0 : Nat) (y1 : Nat) (i : Bool) (hx0 : x0 < fpB) (hx1 : x1 < fpB) (hy0 : y0 < fpB) (hy1 : y1 < fpB) (w : World) :
    Calls Try.prog 3 #[sv [.n 6 x0, .n 6 x1, .n 6 y0, .n 6 y1, .b i]] w (Is (.bool true) w) := by
  by_cases o : RawOk2 x0 x1 y0 y1 i
  · obtain ⟨P, rfl, rfl, rfl, rfl, rfl⟩ := o
    exact twoRights_p P w
  · exact twoRights_n x0 x1 y0 y1 i hx0 hx1 hy0 hy1 o w
end Go.Proofs.Ytmhieifjmgcbkaa

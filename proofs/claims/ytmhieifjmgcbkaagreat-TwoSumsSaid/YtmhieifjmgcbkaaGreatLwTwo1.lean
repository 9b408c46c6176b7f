/- What is proved here: the laws of package two: sums and their order. -/
import Derived.Test.YtmhieifjmgcbkaaGreatTwo3
namespace Go.Proofs.YtmhieifjmgcbkaaGreat
open Go.RowKit Cv

set_option maxRecDepth 20000 in
set_option maxHeartbeats 4000000 in
theorem twoalive_v (w : World) :
    Calls Tryz.prog 11 #[] w (Is (.bool true) w) := by
  go_enter Tryz.func11, Tryz.ntmps11
  refine wp_seq (region_m (F := fun _ => ⟨#[.bool false, undef, undef, undef, undef, undef, undef, undef, undef], []⟩) 0 (fun _ => 0) (fun _ => 0) (fun _ => 0) (fun _ => []) (fun _ => []) [0] (.inr ⟨rfl, by kernel_rfl⟩) (by kernel_rfl) rfl rfl rfl ?_ ?_)
  · refine GSteps.cons (gm_val (v := .bool false) rfl (fun _ => rfl) (fun _ => rfl) (fun γ w h => ex_assign _) rfl) ?_
    exact GSteps.nil
  intro _ w1 hb1 _ _
  refine th_r ?_
  have HB2 := below_then (Below.refl w.heap.size w) hb1.out
  refine wp_seq (region_m (F := fun _ => ⟨#[.bool true, sv [.n 6 g2xa, .n 6 g2xb, .n 6 g2ya, .n 6 g2yb, .b false], sv [.n 6 g2xa, .n 6 g2xb, .n 6 g2ya, .n 6 g2yb, .b false], .bool true, .bool true, sv [.n 6 0, .n 6 0, .n 6 0, .n 6 0, .b true], sv [.n 6 0, .n 6 0, .n 6 0, .n 6 0, .b true], .bool true, .bool true], []⟩) 0 (fun _ => 0) (fun _ => 0) (fun _ => 0) (fun _ => []) (fun _ => []) [1, 2, 3, 4, 5, 6, 7, 8, 0] (.inr ⟨rfl, by kernel_rfl⟩) (by kernel_rfl) rfl rfl rfl ?_ ?_)
  · refine GSteps.cons (gm_call (v := sv [.n 6 g2xa, .n 6 g2xb, .n 6 g2ya, .n 6 g2yb, .b false]) rfl (fun _ => rfl) (fun _ => rfl) (fun γ w => ex_call (vs := []) rfl Tryz.call31 rfl) (fun w h => twoGen_v _) rfl) ?_
    refine GSteps.cons (gm_call (v := sv [.n 6 g2xa, .n 6 g2xb, .n 6 g2ya, .n 6 g2yb, .b false]) rfl (fun _ => rfl) (fun _ => rfl) (fun γ w => ex_call (vs := [.int .i64 0]) rfl Tryz.call32 rfl) (fun w h => r9Some_v _) rfl) ?_
    refine GSteps.cons (gm_val (v := .bool true) rfl (fun _ => rfl) (fun _ => rfl) (fun γ w h => ex_eqs gdG2 eqG2 rfl rfl rfl (shG2_of g2xa_B g2xb_B g2ya_B g2yb_B) (shG2_of g2xa_B g2xb_B g2ya_B g2yb_B) true (by simp)) rfl) ?_
    refine GSteps.cons (gm_val (v := .bool true) rfl (fun _ => rfl) (fun _ => rfl) (fun γ w h => ex_move _) rfl) ?_
    refine GSteps.cons (gm_call (v := sv [.n 6 0, .n 6 0, .n 6 0, .n 6 0, .b true]) rfl (fun _ => rfl) (fun _ => rfl) (fun γ w => ex_call (vs := []) rfl Tryz.call14 rfl) (fun w h => twoZero_v _) rfl) ?_
    refine GSteps.cons (gm_val (v := sv [.n 6 0, .n 6 0, .n 6 0, .n 6 0, .b true]) rfl (fun _ => rfl) (fun _ => rfl) (fun γ w h => ex_builds stG2 (l := [.n 6 0, .n 6 0, .n 6 0, .n 6 0, .b true]) (vs := [(2, .bool true)]) rfl ((fills_cons 4 1 (m := [.b true]) (z' := [.n 6 0, .n 6 0, .n 6 0, .n 6 0, .b true]) rfl (bool_cells true) rfl rfl rfl rfl).trans rfl)) rfl) ?_
    refine GSteps.cons (gm_val (v := .bool true) rfl (fun _ => rfl) (fun _ => rfl) (fun γ w h => ex_eqs gdG2 eqG2 rfl rfl rfl (shG2_of zero_B zero_B zero_B zero_B) (shG2_of zero_B zero_B zero_B zero_B) true (by simp)) rfl) ?_
    refine GSteps.cons (gm_val (v := .bool true) rfl (fun _ => rfl) (fun _ => rfl) (fun γ w h => ex_pick (r := true) rfl) rfl) ?_
    refine GSteps.cons (gm_val (v := .bool true) rfl (fun _ => rfl) (fun _ => rfl) (fun γ w h => ex_assign _) rfl) ?_
    exact GSteps.nil
  intro _ w3 hb3 _ _
  refine th_r ?_
  have HB4 := below_then HB2 hb3.out
  exact wp_ret (bodyPost_ret (ret1 Tryz.results11 (res_tmp rfl)) rfl ⟨rfl, HB4⟩)

set_option maxRecDepth 20000 in
set_option maxHeartbeats 4000000 in
theorem twoSums_pp (P Q : E2) (w : World) :
    Calls Tryz.prog 3 #[sv [.n 6 (bx0 P.pt), .n 6 (bx1 P.pt), .n 6 (by0 P.pt), .n 6 (by1 P.pt), .b (bi P.pt)], sv [.n 6 (bx0 Q.pt), .n 6 (bx1 Q.pt), .n 6 (by0 Q.pt), .n 6 (by1 Q.pt), .b (bi Q.pt)]] w (Is (.bool true) w) := by
  obtain ⟨S, hS⟩ : ∃ q_ : E2, q_ = P.add C2 Q := ⟨_, rfl⟩
  obtain ⟨N, hN⟩ : ∃ q_ : E2, q_ = P.neg := ⟨_, rfl⟩
  go_enter Tryz.func3, Tryz.ntmps3
  refine wp_seq (region_m (F := fun γ => ⟨List.toArray ((sv [.n 6 (bx0 P.pt), .n 6 (bx1 P.pt), .n 6 (by0 P.pt), .n 6 (by1 P.pt), .b (bi P.pt)]) :: (sv [.n 6 (bx0 Q.pt), .n 6 (bx1 Q.pt), .n 6 (by0 Q.pt), .n 6 (by1 Q.pt), .b (bi Q.pt)]) :: (.pointer (some ⟨γ 0, 0, none⟩)) :: (.pointer (some ⟨γ 1, 0, none⟩)) :: (.bool false) :: undef :: undef :: undef :: undef :: undef :: undef :: undef :: undef :: undef :: undef :: undef :: undef :: undef :: undef :: undef :: undef :: undef :: undef :: undef :: undef :: undef :: undef :: undef :: undef :: undef :: undef :: undef :: undef :: undef :: undef :: undef :: undef :: undef :: undef :: undef :: undef :: undef :: undef :: undef :: undef :: undef :: undef :: undef :: undef :: undef :: undef :: undef :: undef :: undef :: undef :: undef :: undef :: undef :: undef :: undef :: undef :: undef :: undef :: undef :: undef :: undef :: undef :: undef :: undef :: undef :: undef :: undef :: undef :: undef :: undef :: undef :: undef :: undef :: undef :: []), []⟩) 2 (fun j_ => match j_ with | 0 => 28 | _ => 28) (fun j_ => match j_ with | 0 => 0 | _ => 1) (fun j_ => match j_ with | 0 => 0 | _ => 1) (fun j_ => match j_ with | 0 => segs [.n 6 (bx0 P.pt), .n 6 (bx1 P.pt), .n 6 (by0 P.pt), .n 6 (by1 P.pt), .b (bi P.pt)] | _ => segs [.n 6 (bx0 Q.pt), .n 6 (bx1 Q.pt), .n 6 (by0 Q.pt), .n 6 (by1 Q.pt), .b (bi Q.pt)]) (fun j_ => match j_ with | 0 => segs [.n 6 (bx0 P.pt), .n 6 (bx1 P.pt), .n 6 (by0 P.pt), .n 6 (by1 P.pt), .b (bi P.pt)] | _ => segs [.n 6 (bx0 Q.pt), .n 6 (bx1 Q.pt), .n 6 (by0 Q.pt), .n 6 (by1 Q.pt), .b (bi Q.pt)]) [2, 3, 4] (.inr ⟨rfl, by kernel_rfl⟩) (by kernel_rfl) rfl rfl rfl ?_ ?_)
  · refine GSteps.cons (gm_box 0 rfl (fun _ => rfl) (fun _ _ => rfl) (fun γ w h => ex_boxs (l := [.n 6 (bx0 P.pt), .n 6 (bx1 P.pt), .n 6 (by0 P.pt), .n 6 (by1 P.pt), .b (bi P.pt)]) rfl) rfl rfl rfl) ?_
    refine GSteps.cons (gm_box 1 rfl (fun _ => rfl) (fun _ _ => rfl) (fun γ w h => ex_boxs (l := [.n 6 (bx0 Q.pt), .n 6 (bx1 Q.pt), .n 6 (by0 Q.pt), .n 6 (by1 Q.pt), .b (bi Q.pt)]) rfl) rfl rfl rfl) ?_
    refine GSteps.cons (gm_val (v := .bool false) rfl (fun _ => rfl) (fun _ => rfl) (fun γ w h => ex_assign _) rfl) ?_
    exact GSteps.nil
  intro γ1 w1 hb1 hB1 hn1
  refine th_r ?_
  have A2 : SB 28 w1 (γ1 0) [.n 6 (bx0 P.pt), .n 6 (bx1 P.pt), .n 6 (by0 P.pt), .n 6 (by1 P.pt), .b (bi P.pt)] := (hB1 0 (by decide)).2
  have le2 := (hB1 0 (by decide)).1
  have A3 : SB 28 w1 (γ1 1) [.n 6 (bx0 Q.pt), .n 6 (bx1 Q.pt), .n 6 (by0 Q.pt), .n 6 (by1 Q.pt), .b (bi Q.pt)] := (hB1 1 (by decide)).2
  have le3 := (hB1 1 (by decide)).1
  have HB4 := below_then (Below.refl w.heap.size w) hb1.out
  refine wp_seq (region_m (F := fun γ => ⟨List.toArray ((sv [.n 6 (bx0 P.pt), .n 6 (bx1 P.pt), .n 6 (by0 P.pt), .n 6 (by1 P.pt), .b (bi P.pt)]) :: (sv [.n 6 (bx0 Q.pt), .n 6 (bx1 Q.pt), .n 6 (by0 Q.pt), .n 6 (by1 Q.pt), .b (bi Q.pt)]) :: (.pointer (some ⟨(γ1 0), 0, none⟩)) :: (.pointer (some ⟨(γ1 1), 0, none⟩)) :: (.bool false) :: (.pointer (some ⟨γ 0, 0, none⟩)) :: (.int .i64 0) :: undef :: undef :: undef :: undef :: (.tuple #[sv [.n 6 (bx0 S.pt), .n 6 (bx1 S.pt), .n 6 (by0 S.pt), .n 6 (by1 S.pt), .b (bi S.pt)], .int .i64 0]) :: (sv [.n 6 (bx0 P.pt), .n 6 (bx1 P.pt), .n 6 (by0 P.pt), .n 6 (by1 P.pt), .b (bi P.pt)]) :: (sv [.n 6 (bx0 Q.pt), .n 6 (bx1 Q.pt), .n 6 (by0 Q.pt), .n 6 (by1 Q.pt), .b (bi Q.pt)]) :: (.tuple #[sv [.n 6 (bx0 S.pt), .n 6 (bx1 S.pt), .n 6 (by0 S.pt), .n 6 (by1 S.pt), .b (bi S.pt)], .int .i64 0]) :: (sv [.n 6 (bx0 S.pt), .n 6 (bx1 S.pt), .n 6 (by0 S.pt), .n 6 (by1 S.pt), .b (bi S.pt)]) :: (.int .i64 0) :: undef :: undef :: undef :: undef :: undef :: undef :: undef :: undef :: undef :: undef :: undef :: undef :: undef :: undef :: undef :: undef :: undef :: undef :: undef :: undef :: undef :: undef :: undef :: undef :: undef :: undef :: undef :: undef :: undef :: undef :: undef :: undef :: undef :: undef :: undef :: undef :: undef :: undef :: undef :: undef :: undef :: undef :: undef :: undef :: undef :: undef :: undef :: undef :: undef :: undef :: undef :: undef :: undef :: undef :: undef :: undef :: undef :: undef :: undef :: undef :: undef :: undef :: []), []⟩) 1 (fun _ => 28) (fun _ => 6) (fun _ => 7) (fun _ => segs [.n 6 0, .n 6 0, .n 6 0, .n 6 0, .b false]) (fun _ => segs [.n 6 (bx0 S.pt), .n 6 (bx1 S.pt), .n 6 (by0 S.pt), .n 6 (by1 S.pt), .b (bi S.pt)]) [12, 13, 14, 11, 15, 16, 5, 6] (.inr ⟨rfl, by kernel_rfl⟩) (by kernel_rfl) rfl rfl rfl ?_ ?_)
  · refine GSteps.cons (gm_val (v := sv [.n 6 (bx0 P.pt), .n 6 (bx1 P.pt), .n 6 (by0 P.pt), .n 6 (by1 P.pt), .b (bi P.pt)]) rfl (fun _ => rfl) (fun _ => rfl) (fun γ w h => ex_loads 0 5 (m := [.n 6 (bx0 P.pt), .n 6 (bx1 P.pt), .n 6 (by0 P.pt), .n 6 (by1 P.pt), .b (bi P.pt)]) flG2 rfl rfl (A2.keep h.out) rfl rfl) rfl) ?_
    refine GSteps.cons (gm_val (v := sv [.n 6 (bx0 Q.pt), .n 6 (bx1 Q.pt), .n 6 (by0 Q.pt), .n 6 (by1 Q.pt), .b (bi Q.pt)]) rfl (fun _ => rfl) (fun _ => rfl) (fun γ w h => ex_loads 0 5 (m := [.n 6 (bx0 Q.pt), .n 6 (bx1 Q.pt), .n 6 (by0 Q.pt), .n 6 (by1 Q.pt), .b (bi Q.pt)]) flG2 rfl rfl (A3.keep h.out) rfl rfl) rfl) ?_
    refine GSteps.cons (gm_call (v := .tuple #[sv [.n 6 (bx0 S.pt), .n 6 (bx1 S.pt), .n 6 (by0 S.pt), .n 6 (by1 S.pt), .b (bi S.pt)], .int .i64 0]) rfl (fun _ => rfl) (fun _ => rfl) (fun γ w => ex_call (vs := [sv [.n 6 (bx0 P.pt), .n 6 (bx1 P.pt), .n 6 (by0 P.pt), .n 6 (by1 P.pt), .b (bi P.pt)], sv [.n 6 (bx0 Q.pt), .n 6 (bx1 Q.pt), .n 6 (by0 Q.pt), .n 6 (by1 Q.pt), .b (bi Q.pt)]]) rfl Tryz.call7 rfl) (fun w h => twoAdd_p P Q S hS.symm _) rfl) ?_
    refine GSteps.cons (gm_val (v := .tuple #[sv [.n 6 (bx0 S.pt), .n 6 (bx1 S.pt), .n 6 (by0 S.pt), .n 6 (by1 S.pt), .b (bi S.pt)], .int .i64 0]) rfl (fun _ => rfl) (fun _ => rfl) (fun γ w h => ex_move _) rfl) ?_
    refine GSteps.cons (gm_val (v := sv [.n 6 (bx0 S.pt), .n 6 (bx1 S.pt), .n 6 (by0 S.pt), .n 6 (by1 S.pt), .b (bi S.pt)]) rfl (fun _ => rfl) (fun _ => rfl) (fun γ w h => ex_extract (vs := [sv [.n 6 (bx0 S.pt), .n 6 (bx1 S.pt), .n 6 (by0 S.pt), .n 6 (by1 S.pt), .b (bi S.pt)], .int .i64 0]) rfl rfl) rfl) ?_
    refine GSteps.cons (gm_val (v := .int .i64 0) rfl (fun _ => rfl) (fun _ => rfl) (fun γ w h => ex_extract (vs := [sv [.n 6 (bx0 S.pt), .n 6 (bx1 S.pt), .n 6 (by0 S.pt), .n 6 (by1 S.pt), .b (bi S.pt)], .int .i64 0]) rfl rfl) rfl) ?_
    refine GSteps.cons (gm_new 0 rfl (fun _ => rfl) (fun _ _ => rfl) (fun γ w => ex_allocs (l := [.n 6 0, .n 6 0, .n 6 0, .n 6 0, .b false]) zG2) rfl (by kernel_rfl)) ?_
    refine GSteps.cons (gm_store 0 rfl rfl (fun _ => rfl) (len_segs (l := [.n 6 (bx0 S.pt), .n 6 (bx1 S.pt), .n 6 (by0 S.pt), .n 6 (by1 S.pt), .b (bi S.pt)]) (l' := [.n 6 0, .n 6 0, .n 6 0, .n 6 0, .b false]) rfl) (fun γ w h => ex_stores 0 5 (l := [.n 6 0, .n 6 0, .n 6 0, .n 6 0, .b false]) (m := [.n 6 (bx0 S.pt), .n 6 (bx1 S.pt), .n 6 (by0 S.pt), .n 6 (by1 S.pt), .b (bi S.pt)]) flG2.2 rfl rfl rfl rfl h rfl rfl) rfl rfl (by kernel_rfl)) ?_
    refine GSteps.cons (gm_val (v := .int .i64 0) rfl (fun _ => rfl) (fun _ => rfl) (fun γ w h => ex_assign _) rfl) ?_
    exact GSteps.nil
  intro γ5 w5 hb5 hB5 _
  refine th_r ?_
  have A6 := A2.keep hb5.out
  have A7 := A3.keep hb5.out
  have A8 : SB 28 w5 (γ5 0) [.n 6 (bx0 S.pt), .n 6 (bx1 S.pt), .n 6 (by0 S.pt), .n 6 (by1 S.pt), .b (bi S.pt)] := (hB5 0 (by decide)).2
  have le8 := (hB5 0 (by decide)).1
  have HB9 := below_then HB4 hb5.out
  refine wp_seq (region_m (F := fun γ => ⟨List.toArray ((sv [.n 6 (bx0 P.pt), .n 6 (bx1 P.pt), .n 6 (by0 P.pt), .n 6 (by1 P.pt), .b (bi P.pt)]) :: (sv [.n 6 (bx0 Q.pt), .n 6 (bx1 Q.pt), .n 6 (by0 Q.pt), .n 6 (by1 Q.pt), .b (bi Q.pt)]) :: (.pointer (some ⟨(γ1 0), 0, none⟩)) :: (.pointer (some ⟨(γ1 1), 0, none⟩)) :: (.bool false) :: (.pointer (some ⟨(γ5 0), 0, none⟩)) :: (.int .i64 0) :: (.pointer (some ⟨γ 0, 0, none⟩)) :: (.int .i64 0) :: undef :: undef :: (.tuple #[sv [.n 6 (bx0 S.pt), .n 6 (bx1 S.pt), .n 6 (by0 S.pt), .n 6 (by1 S.pt), .b (bi S.pt)], .int .i64 0]) :: (sv [.n 6 (bx0 P.pt), .n 6 (bx1 P.pt), .n 6 (by0 P.pt), .n 6 (by1 P.pt), .b (bi P.pt)]) :: (sv [.n 6 (bx0 Q.pt), .n 6 (bx1 Q.pt), .n 6 (by0 Q.pt), .n 6 (by1 Q.pt), .b (bi Q.pt)]) :: (.tuple #[sv [.n 6 (bx0 S.pt), .n 6 (bx1 S.pt), .n 6 (by0 S.pt), .n 6 (by1 S.pt), .b (bi S.pt)], .int .i64 0]) :: (sv [.n 6 (bx0 S.pt), .n 6 (bx1 S.pt), .n 6 (by0 S.pt), .n 6 (by1 S.pt), .b (bi S.pt)]) :: (.int .i64 0) :: (.tuple #[sv [.n 6 (bx0 N.pt), .n 6 (bx1 N.pt), .n 6 (by0 N.pt), .n 6 (by1 N.pt), .b (bi N.pt)], .int .i64 0]) :: (sv [.n 6 (bx0 P.pt), .n 6 (bx1 P.pt), .n 6 (by0 P.pt), .n 6 (by1 P.pt), .b (bi P.pt)]) :: (.tuple #[sv [.n 6 (bx0 N.pt), .n 6 (bx1 N.pt), .n 6 (by0 N.pt), .n 6 (by1 N.pt), .b (bi N.pt)], .int .i64 0]) :: (sv [.n 6 (bx0 N.pt), .n 6 (bx1 N.pt), .n 6 (by0 N.pt), .n 6 (by1 N.pt), .b (bi N.pt)]) :: (.int .i64 0) :: undef :: undef :: undef :: undef :: undef :: undef :: undef :: undef :: undef :: undef :: undef :: undef :: undef :: undef :: undef :: undef :: undef :: undef :: undef :: undef :: undef :: undef :: undef :: undef :: undef :: undef :: undef :: undef :: undef :: undef :: undef :: undef :: undef :: undef :: undef :: undef :: undef :: undef :: undef :: undef :: undef :: undef :: undef :: undef :: undef :: undef :: undef :: undef :: undef :: undef :: undef :: undef :: undef :: undef :: undef :: undef :: undef :: []), []⟩) 1 (fun _ => 28) (fun _ => 5) (fun _ => 6) (fun _ => segs [.n 6 0, .n 6 0, .n 6 0, .n 6 0, .b false]) (fun _ => segs [.n 6 (bx0 N.pt), .n 6 (bx1 N.pt), .n 6 (by0 N.pt), .n 6 (by1 N.pt), .b (bi N.pt)]) [18, 19, 17, 20, 21, 7, 8] (.inr ⟨rfl, by kernel_rfl⟩) (by kernel_rfl) rfl rfl rfl ?_ ?_)
  · refine GSteps.cons (gm_val (v := sv [.n 6 (bx0 P.pt), .n 6 (bx1 P.pt), .n 6 (by0 P.pt), .n 6 (by1 P.pt), .b (bi P.pt)]) rfl (fun _ => rfl) (fun _ => rfl) (fun γ w h => ex_loads 0 5 (m := [.n 6 (bx0 P.pt), .n 6 (bx1 P.pt), .n 6 (by0 P.pt), .n 6 (by1 P.pt), .b (bi P.pt)]) flG2 rfl rfl (A6.keep h.out) rfl rfl) rfl) ?_
    refine GSteps.cons (gm_call (v := .tuple #[sv [.n 6 (bx0 N.pt), .n 6 (bx1 N.pt), .n 6 (by0 N.pt), .n 6 (by1 N.pt), .b (bi N.pt)], .int .i64 0]) rfl (fun _ => rfl) (fun _ => rfl) (fun γ w => ex_call (vs := [sv [.n 6 (bx0 P.pt), .n 6 (bx1 P.pt), .n 6 (by0 P.pt), .n 6 (by1 P.pt), .b (bi P.pt)]]) rfl Tryz.call8 rfl) (fun w h => twoNeg_q P N hN.symm _) rfl) ?_
    refine GSteps.cons (gm_val (v := .tuple #[sv [.n 6 (bx0 N.pt), .n 6 (bx1 N.pt), .n 6 (by0 N.pt), .n 6 (by1 N.pt), .b (bi N.pt)], .int .i64 0]) rfl (fun _ => rfl) (fun _ => rfl) (fun γ w h => ex_move _) rfl) ?_
    refine GSteps.cons (gm_val (v := sv [.n 6 (bx0 N.pt), .n 6 (bx1 N.pt), .n 6 (by0 N.pt), .n 6 (by1 N.pt), .b (bi N.pt)]) rfl (fun _ => rfl) (fun _ => rfl) (fun γ w h => ex_extract (vs := [sv [.n 6 (bx0 N.pt), .n 6 (bx1 N.pt), .n 6 (by0 N.pt), .n 6 (by1 N.pt), .b (bi N.pt)], .int .i64 0]) rfl rfl) rfl) ?_
    refine GSteps.cons (gm_val (v := .int .i64 0) rfl (fun _ => rfl) (fun _ => rfl) (fun γ w h => ex_extract (vs := [sv [.n 6 (bx0 N.pt), .n 6 (bx1 N.pt), .n 6 (by0 N.pt), .n 6 (by1 N.pt), .b (bi N.pt)], .int .i64 0]) rfl rfl) rfl) ?_
    refine GSteps.cons (gm_new 0 rfl (fun _ => rfl) (fun _ _ => rfl) (fun γ w => ex_allocs (l := [.n 6 0, .n 6 0, .n 6 0, .n 6 0, .b false]) zG2) rfl (by kernel_rfl)) ?_
    refine GSteps.cons (gm_store 0 rfl rfl (fun _ => rfl) (len_segs (l := [.n 6 (bx0 N.pt), .n 6 (bx1 N.pt), .n 6 (by0 N.pt), .n 6 (by1 N.pt), .b (bi N.pt)]) (l' := [.n 6 0, .n 6 0, .n 6 0, .n 6 0, .b false]) rfl) (fun γ w h => ex_stores 0 5 (l := [.n 6 0, .n 6 0, .n 6 0, .n 6 0, .b false]) (m := [.n 6 (bx0 N.pt), .n 6 (bx1 N.pt), .n 6 (by0 N.pt), .n 6 (by1 N.pt), .b (bi N.pt)]) flG2.2 rfl rfl rfl rfl h rfl rfl) rfl rfl (by kernel_rfl)) ?_
    refine GSteps.cons (gm_val (v := .int .i64 0) rfl (fun _ => rfl) (fun _ => rfl) (fun γ w h => ex_assign _) rfl) ?_
    exact GSteps.nil
  intro γ10 w10 hb10 hB10 _
  refine th_r ?_
  have A11 := A6.keep hb10.out
  have A12 := A7.keep hb10.out
  have A13 := A8.keep hb10.out
  have A14 : SB 28 w10 (γ10 0) [.n 6 (bx0 N.pt), .n 6 (bx1 N.pt), .n 6 (by0 N.pt), .n 6 (by1 N.pt), .b (bi N.pt)] := (hB10 0 (by decide)).2
  have le14 := (hB10 0 (by decide)).1
  have HB15 := below_then HB9 hb10.out
  refine wp_seq (region_m (F := fun _ => ⟨List.toArray ((sv [.n 6 (bx0 P.pt), .n 6 (bx1 P.pt), .n 6 (by0 P.pt), .n 6 (by1 P.pt), .b (bi P.pt)]) :: (sv [.n 6 (bx0 Q.pt), .n 6 (bx1 Q.pt), .n 6 (by0 Q.pt), .n 6 (by1 Q.pt), .b (bi Q.pt)]) :: (.pointer (some ⟨(γ1 0), 0, none⟩)) :: (.pointer (some ⟨(γ1 1), 0, none⟩)) :: (.bool false) :: (.pointer (some ⟨(γ5 0), 0, none⟩)) :: (.int .i64 0) :: (.pointer (some ⟨(γ10 0), 0, none⟩)) :: (.int .i64 0) :: (.bool true) :: (.bool true) :: (.tuple #[sv [.n 6 (bx0 S.pt), .n 6 (bx1 S.pt), .n 6 (by0 S.pt), .n 6 (by1 S.pt), .b (bi S.pt)], .int .i64 0]) :: (sv [.n 6 (bx0 P.pt), .n 6 (bx1 P.pt), .n 6 (by0 P.pt), .n 6 (by1 P.pt), .b (bi P.pt)]) :: (sv [.n 6 (bx0 Q.pt), .n 6 (bx1 Q.pt), .n 6 (by0 Q.pt), .n 6 (by1 Q.pt), .b (bi Q.pt)]) :: (.tuple #[sv [.n 6 (bx0 S.pt), .n 6 (bx1 S.pt), .n 6 (by0 S.pt), .n 6 (by1 S.pt), .b (bi S.pt)], .int .i64 0]) :: (sv [.n 6 (bx0 S.pt), .n 6 (bx1 S.pt), .n 6 (by0 S.pt), .n 6 (by1 S.pt), .b (bi S.pt)]) :: (.int .i64 0) :: (.tuple #[sv [.n 6 (bx0 N.pt), .n 6 (bx1 N.pt), .n 6 (by0 N.pt), .n 6 (by1 N.pt), .b (bi N.pt)], .int .i64 0]) :: (sv [.n 6 (bx0 P.pt), .n 6 (bx1 P.pt), .n 6 (by0 P.pt), .n 6 (by1 P.pt), .b (bi P.pt)]) :: (.tuple #[sv [.n 6 (bx0 N.pt), .n 6 (bx1 N.pt), .n 6 (by0 N.pt), .n 6 (by1 N.pt), .b (bi N.pt)], .int .i64 0]) :: (sv [.n 6 (bx0 N.pt), .n 6 (bx1 N.pt), .n 6 (by0 N.pt), .n 6 (by1 N.pt), .b (bi N.pt)]) :: (.int .i64 0) :: (sv [.n 6 (bx0 P.pt), .n 6 (bx1 P.pt), .n 6 (by0 P.pt), .n 6 (by1 P.pt), .b (bi P.pt)]) :: (.bool true) :: (sv [.n 6 (bx0 Q.pt), .n 6 (bx1 Q.pt), .n 6 (by0 Q.pt), .n 6 (by1 Q.pt), .b (bi Q.pt)]) :: (.bool true) :: undef :: undef :: undef :: undef :: undef :: undef :: undef :: undef :: undef :: undef :: undef :: undef :: undef :: undef :: undef :: undef :: undef :: undef :: undef :: undef :: undef :: undef :: undef :: undef :: undef :: undef :: undef :: undef :: undef :: undef :: undef :: undef :: undef :: undef :: undef :: undef :: undef :: undef :: undef :: undef :: undef :: undef :: undef :: undef :: undef :: undef :: undef :: undef :: undef :: undef :: undef :: undef :: undef :: []), []⟩) 0 (fun _ => 0) (fun _ => 0) (fun _ => 0) (fun _ => []) (fun _ => []) [22, 23, 24, 25, 9, 10] (.inl ⟨rfl, by kernel_rfl⟩) (by kernel_rfl) rfl rfl rfl ?_ ?_)
  · refine GSteps.cons (gm_val (v := sv [.n 6 (bx0 P.pt), .n 6 (bx1 P.pt), .n 6 (by0 P.pt), .n 6 (by1 P.pt), .b (bi P.pt)]) rfl (fun _ => rfl) (fun _ => rfl) (fun γ w h => ex_loads 0 5 (m := [.n 6 (bx0 P.pt), .n 6 (bx1 P.pt), .n 6 (by0 P.pt), .n 6 (by1 P.pt), .b (bi P.pt)]) flG2 rfl rfl (A11.keep h.out) rfl rfl) rfl) ?_
    refine GSteps.cons (gm_call (v := .bool true) rfl (fun _ => rfl) (fun _ => rfl) (fun γ w => ex_call (vs := [sv [.n 6 (bx0 P.pt), .n 6 (bx1 P.pt), .n 6 (by0 P.pt), .n 6 (by1 P.pt), .b (bi P.pt)]]) rfl Tryz.call9 rfl) (fun w h => r9Right_p P _) rfl) ?_
    refine GSteps.cons (gm_val (v := sv [.n 6 (bx0 Q.pt), .n 6 (bx1 Q.pt), .n 6 (by0 Q.pt), .n 6 (by1 Q.pt), .b (bi Q.pt)]) rfl (fun _ => rfl) (fun _ => rfl) (fun γ w h => ex_loads 0 5 (m := [.n 6 (bx0 Q.pt), .n 6 (bx1 Q.pt), .n 6 (by0 Q.pt), .n 6 (by1 Q.pt), .b (bi Q.pt)]) flG2 rfl rfl (A12.keep h.out) rfl rfl) rfl) ?_
    refine GSteps.cons (gm_call (v := .bool true) rfl (fun _ => rfl) (fun _ => rfl) (fun γ w => ex_call (vs := [sv [.n 6 (bx0 Q.pt), .n 6 (bx1 Q.pt), .n 6 (by0 Q.pt), .n 6 (by1 Q.pt), .b (bi Q.pt)]]) rfl Tryz.call9 rfl) (fun w h => r9Right_p Q _) rfl) ?_
    refine GSteps.cons (gm_val (v := .bool true) rfl (fun _ => rfl) (fun _ => rfl) (fun γ w h => ex_assign _) rfl) ?_
    refine GSteps.cons (gm_val (v := .bool true) rfl (fun _ => rfl) (fun _ => rfl) (fun γ w h => ex_assign _) rfl) ?_
    exact GSteps.nil
  intro _ w16 hb16 _ _
  refine th_r ?_
  have A17 := A11.keep hb16.out
  have A18 := A12.keep hb16.out
  have A19 := A13.keep hb16.out
  have A20 := A14.keep hb16.out
  have HB21 := below_then HB15 hb16.out
  refine wp_seq ?_
  refine wp_seq (region_m (F := fun _ => ⟨List.toArray ((sv [.n 6 (bx0 P.pt), .n 6 (bx1 P.pt), .n 6 (by0 P.pt), .n 6 (by1 P.pt), .b (bi P.pt)]) :: (sv [.n 6 (bx0 Q.pt), .n 6 (bx1 Q.pt), .n 6 (by0 Q.pt), .n 6 (by1 Q.pt), .b (bi Q.pt)]) :: (.pointer (some ⟨(γ1 0), 0, none⟩)) :: (.pointer (some ⟨(γ1 1), 0, none⟩)) :: (.bool false) :: (.pointer (some ⟨(γ5 0), 0, none⟩)) :: (.int .i64 0) :: (.pointer (some ⟨(γ10 0), 0, none⟩)) :: (.int .i64 0) :: (.bool true) :: (.bool true) :: (.tuple #[sv [.n 6 (bx0 S.pt), .n 6 (bx1 S.pt), .n 6 (by0 S.pt), .n 6 (by1 S.pt), .b (bi S.pt)], .int .i64 0]) :: (sv [.n 6 (bx0 P.pt), .n 6 (bx1 P.pt), .n 6 (by0 P.pt), .n 6 (by1 P.pt), .b (bi P.pt)]) :: (sv [.n 6 (bx0 Q.pt), .n 6 (bx1 Q.pt), .n 6 (by0 Q.pt), .n 6 (by1 Q.pt), .b (bi Q.pt)]) :: (.tuple #[sv [.n 6 (bx0 S.pt), .n 6 (bx1 S.pt), .n 6 (by0 S.pt), .n 6 (by1 S.pt), .b (bi S.pt)], .int .i64 0]) :: (sv [.n 6 (bx0 S.pt), .n 6 (bx1 S.pt), .n 6 (by0 S.pt), .n 6 (by1 S.pt), .b (bi S.pt)]) :: (.int .i64 0) :: (.tuple #[sv [.n 6 (bx0 N.pt), .n 6 (bx1 N.pt), .n 6 (by0 N.pt), .n 6 (by1 N.pt), .b (bi N.pt)], .int .i64 0]) :: (sv [.n 6 (bx0 P.pt), .n 6 (bx1 P.pt), .n 6 (by0 P.pt), .n 6 (by1 P.pt), .b (bi P.pt)]) :: (.tuple #[sv [.n 6 (bx0 N.pt), .n 6 (bx1 N.pt), .n 6 (by0 N.pt), .n 6 (by1 N.pt), .b (bi N.pt)], .int .i64 0]) :: (sv [.n 6 (bx0 N.pt), .n 6 (bx1 N.pt), .n 6 (by0 N.pt), .n 6 (by1 N.pt), .b (bi N.pt)]) :: (.int .i64 0) :: (sv [.n 6 (bx0 P.pt), .n 6 (bx1 P.pt), .n 6 (by0 P.pt), .n 6 (by1 P.pt), .b (bi P.pt)]) :: (.bool true) :: (sv [.n 6 (bx0 Q.pt), .n 6 (bx1 Q.pt), .n 6 (by0 Q.pt), .n 6 (by1 Q.pt), .b (bi Q.pt)]) :: (.bool true) :: (.bool true) :: (.int .i64 0) :: (.bool true) :: (.bool false) :: (.bool false) :: (.bool true) :: (.bool true) :: (sv [.n 6 (bx0 N.pt), .n 6 (bx1 N.pt), .n 6 (by0 N.pt), .n 6 (by1 N.pt), .b (bi N.pt)]) :: (sv [.n 6 (bx0 P.pt), .n 6 (bx1 P.pt), .n 6 (by0 P.pt), .n 6 (by1 P.pt), .b (bi P.pt)]) :: (sv [.n 6 (bx0 N.pt), .n 6 (bx1 N.pt), .n 6 (by0 N.pt), .n 6 (by1 N.pt), .b (bi N.pt)]) :: (.bool false) :: (.bool false) :: (.bool false) :: (.bool false) :: (.bool true) :: (.bool false) :: (.bool false) :: undef :: undef :: undef :: undef :: undef :: undef :: undef :: (.bool false) :: (.bool false) :: undef :: undef :: undef :: undef :: undef :: undef :: undef :: undef :: undef :: undef :: undef :: undef :: undef :: undef :: undef :: undef :: undef :: undef :: undef :: undef :: undef :: undef :: undef :: undef :: undef :: undef :: undef :: []), []⟩) 0 (fun _ => 0) (fun _ => 0) (fun _ => 0) (fun _ => []) (fun _ => []) [26, 27, 28, 29, 30, 31, 32, 33, 34, 35, 36, 37, 38, 39, 40, 41, 42, 43, 44, 45, 46, 47, 48, 49, 50, 51] (.inl ⟨rfl, by kernel_rfl⟩) (by kernel_rfl) rfl rfl rfl ?_ ?_)
  · refine GSteps.cons (gm_val (v := .bool true) rfl (fun _ => rfl) (fun _ => rfl) (fun γ w h => ex_move _) rfl) ?_
    refine GSteps.cons (gm_val (v := .int .i64 0) rfl (fun _ => rfl) (fun _ => rfl) (fun γ w h => ex_move _) rfl) ?_
    refine GSteps.cons (gm_val (v := .bool true) rfl (fun _ => rfl) (fun _ => rfl) (fun γ w h => ex_eqi rfl rfl _ rfl) rfl) ?_
    refine GSteps.cons (gm_val (v := .bool false) rfl (fun _ => rfl) (fun _ => rfl) (fun γ w h => ex_neqb (a := true) (b := true) Tryz.underlying4 rfl rfl _ rfl) rfl) ?_
    refine GSteps.cons (gm_val (v := .bool false) rfl (fun _ => rfl) (fun _ => rfl) (fun γ w h => ex_move _) rfl) ?_
    refine GSteps.cons (gm_val (v := .bool true) rfl (fun _ => rfl) (fun _ => rfl) (fun γ w h => ex_move _) rfl) ?_
    refine GSteps.cons (gm_val (v := .bool true) rfl (fun _ => rfl) (fun _ => rfl) (fun γ w h => ex_move _) rfl) ?_
    refine GSteps.cons (gm_val (v := sv [.n 6 (bx0 N.pt), .n 6 (bx1 N.pt), .n 6 (by0 N.pt), .n 6 (by1 N.pt), .b (bi N.pt)]) rfl (fun _ => rfl) (fun _ => rfl) (fun γ w h => ex_loads 0 5 (m := [.n 6 (bx0 N.pt), .n 6 (bx1 N.pt), .n 6 (by0 N.pt), .n 6 (by1 N.pt), .b (bi N.pt)]) flG2 rfl rfl (A20.keep h.out) rfl rfl) rfl) ?_
    refine GSteps.cons (gm_val (v := sv [.n 6 (bx0 P.pt), .n 6 (bx1 P.pt), .n 6 (by0 P.pt), .n 6 (by1 P.pt), .b (bi P.pt)]) rfl (fun _ => rfl) (fun _ => rfl) (fun γ w h => ex_loads 0 5 (m := [.n 6 (bx0 P.pt), .n 6 (bx1 P.pt), .n 6 (by0 P.pt), .n 6 (by1 P.pt), .b (bi P.pt)]) flG2 rfl rfl (A17.keep h.out) rfl rfl) rfl) ?_
    refine GSteps.cons (gm_call (v := sv [.n 6 (bx0 N.pt), .n 6 (bx1 N.pt), .n 6 (by0 N.pt), .n 6 (by1 N.pt), .b (bi N.pt)]) rfl (fun _ => rfl) (fun _ => rfl) (fun γ w => ex_call (vs := [sv [.n 6 (bx0 P.pt), .n 6 (bx1 P.pt), .n 6 (by0 P.pt), .n 6 (by1 P.pt), .b (bi P.pt)]]) rfl Tryz.call10 rfl) (fun w h => r9Neg_q P N hN.symm _) rfl) ?_
    refine GSteps.cons (gm_val (v := .bool false) rfl (fun _ => rfl) (fun _ => rfl) (fun γ w h => ex_neqs gdG2 eqG2 rfl rfl rfl (shG2_of (bx0_B N.pt) (bx1_B N.pt) (by0_B N.pt) (by1_B N.pt)) (shG2_of (bx0_B N.pt) (bx1_B N.pt) (by0_B N.pt) (by1_B N.pt)) false (by simp)) rfl) ?_
    refine GSteps.cons (gm_val (v := .bool false) rfl (fun _ => rfl) (fun _ => rfl) (fun γ w h => ex_pick (r := true) rfl) rfl) ?_
    refine GSteps.cons (gm_val (v := .bool false) rfl (fun _ => rfl) (fun _ => rfl) (fun γ w h => ex_pick (r := false) rfl) rfl) ?_
    refine GSteps.cons (gm_val (v := .bool false) rfl (fun _ => rfl) (fun _ => rfl) (fun γ w h => ex_move _) rfl) ?_
    refine GSteps.cons (gm_val (v := .bool true) rfl (fun _ => rfl) (fun _ => rfl) (fun γ w h => ex_move _) rfl) ?_
    refine GSteps.cons (gm_val (v := .bool false) rfl (fun _ => rfl) (fun _ => rfl) (fun γ w h => ex_not (r := true) rfl) rfl) ?_
    refine GSteps.cons (gm_val (v := .bool false) rfl (fun _ => rfl) (fun _ => rfl) (fun γ w h => ex_move _) rfl) ?_
    refine GSteps.cons (gm_skip rfl (fun _ => rfl) (fun _ => rfl) rfl) ?_
    refine GSteps.cons (gm_skip rfl (fun _ => rfl) (fun _ => rfl) rfl) ?_
    refine GSteps.cons (gm_skip rfl (fun _ => rfl) (fun _ => rfl) rfl) ?_
    refine GSteps.cons (gm_skip rfl (fun _ => rfl) (fun _ => rfl) rfl) ?_
    refine GSteps.cons (gm_skip rfl (fun _ => rfl) (fun _ => rfl) rfl) ?_
    refine GSteps.cons (gm_skip rfl (fun _ => rfl) (fun _ => rfl) rfl) ?_
    refine GSteps.cons (gm_skip rfl (fun _ => rfl) (fun _ => rfl) rfl) ?_
    refine GSteps.cons (gm_val (v := .bool false) rfl (fun _ => rfl) (fun _ => rfl) (fun γ w h => ex_pick (r := false) rfl) rfl) ?_
    refine GSteps.cons (gm_val (v := .bool false) rfl (fun _ => rfl) (fun _ => rfl) (fun γ w h => ex_pick (r := false) rfl) rfl) ?_
    exact GSteps.nil
  intro _ w22 hb22 _ _
  refine th_r ?_
  have A23 := A17.keep hb22.out
  have A24 := A18.keep hb22.out
  have A25 := A19.keep hb22.out
  have A26 := A20.keep hb22.out
  have HB27 := below_then HB21 hb22.out
  refine wp_cond_false rfl ?_
  refine wp_skip ?_
  refine th_r ?_
  refine wp_seq ?_
  refine wp_seq (region_m (F := fun _ => ⟨List.toArray ((sv [.n 6 (bx0 P.pt), .n 6 (bx1 P.pt), .n 6 (by0 P.pt), .n 6 (by1 P.pt), .b (bi P.pt)]) :: (sv [.n 6 (bx0 Q.pt), .n 6 (bx1 Q.pt), .n 6 (by0 Q.pt), .n 6 (by1 Q.pt), .b (bi Q.pt)]) :: (.pointer (some ⟨(γ1 0), 0, none⟩)) :: (.pointer (some ⟨(γ1 1), 0, none⟩)) :: (.bool false) :: (.pointer (some ⟨(γ5 0), 0, none⟩)) :: (.int .i64 0) :: (.pointer (some ⟨(γ10 0), 0, none⟩)) :: (.int .i64 0) :: (.bool true) :: (.bool true) :: (.tuple #[sv [.n 6 (bx0 S.pt), .n 6 (bx1 S.pt), .n 6 (by0 S.pt), .n 6 (by1 S.pt), .b (bi S.pt)], .int .i64 0]) :: (sv [.n 6 (bx0 P.pt), .n 6 (bx1 P.pt), .n 6 (by0 P.pt), .n 6 (by1 P.pt), .b (bi P.pt)]) :: (sv [.n 6 (bx0 Q.pt), .n 6 (bx1 Q.pt), .n 6 (by0 Q.pt), .n 6 (by1 Q.pt), .b (bi Q.pt)]) :: (.tuple #[sv [.n 6 (bx0 S.pt), .n 6 (bx1 S.pt), .n 6 (by0 S.pt), .n 6 (by1 S.pt), .b (bi S.pt)], .int .i64 0]) :: (sv [.n 6 (bx0 S.pt), .n 6 (bx1 S.pt), .n 6 (by0 S.pt), .n 6 (by1 S.pt), .b (bi S.pt)]) :: (.int .i64 0) :: (.tuple #[sv [.n 6 (bx0 N.pt), .n 6 (bx1 N.pt), .n 6 (by0 N.pt), .n 6 (by1 N.pt), .b (bi N.pt)], .int .i64 0]) :: (sv [.n 6 (bx0 P.pt), .n 6 (bx1 P.pt), .n 6 (by0 P.pt), .n 6 (by1 P.pt), .b (bi P.pt)]) :: (.tuple #[sv [.n 6 (bx0 N.pt), .n 6 (bx1 N.pt), .n 6 (by0 N.pt), .n 6 (by1 N.pt), .b (bi N.pt)], .int .i64 0]) :: (sv [.n 6 (bx0 N.pt), .n 6 (bx1 N.pt), .n 6 (by0 N.pt), .n 6 (by1 N.pt), .b (bi N.pt)]) :: (.int .i64 0) :: (sv [.n 6 (bx0 P.pt), .n 6 (bx1 P.pt), .n 6 (by0 P.pt), .n 6 (by1 P.pt), .b (bi P.pt)]) :: (.bool true) :: (sv [.n 6 (bx0 Q.pt), .n 6 (bx1 Q.pt), .n 6 (by0 Q.pt), .n 6 (by1 Q.pt), .b (bi Q.pt)]) :: (.bool true) :: (.bool true) :: (.int .i64 0) :: (.bool true) :: (.bool false) :: (.bool false) :: (.bool true) :: (.bool true) :: (sv [.n 6 (bx0 N.pt), .n 6 (bx1 N.pt), .n 6 (by0 N.pt), .n 6 (by1 N.pt), .b (bi N.pt)]) :: (sv [.n 6 (bx0 P.pt), .n 6 (bx1 P.pt), .n 6 (by0 P.pt), .n 6 (by1 P.pt), .b (bi P.pt)]) :: (sv [.n 6 (bx0 N.pt), .n 6 (bx1 N.pt), .n 6 (by0 N.pt), .n 6 (by1 N.pt), .b (bi N.pt)]) :: (.bool false) :: (.bool false) :: (.bool false) :: (.bool false) :: (.bool true) :: (.bool false) :: (.bool false) :: undef :: undef :: undef :: undef :: undef :: undef :: undef :: (.bool false) :: (.bool false) :: (.bool true) :: (.bool false) :: (.bool false) :: (.bool true) :: (.bool false) :: (.bool false) :: undef :: undef :: undef :: undef :: undef :: undef :: undef :: undef :: undef :: undef :: undef :: undef :: undef :: undef :: undef :: undef :: undef :: undef :: undef :: undef :: undef :: []), []⟩) 0 (fun _ => 0) (fun _ => 0) (fun _ => 0) (fun _ => []) (fun _ => []) [52, 53, 54, 55, 56, 57] (.inr ⟨rfl, by kernel_rfl⟩) (by kernel_rfl) rfl rfl rfl ?_ ?_)
  · refine GSteps.cons (gm_val (v := .bool true) rfl (fun _ => rfl) (fun _ => rfl) (fun γ w h => ex_move _) rfl) ?_
    refine GSteps.cons (gm_val (v := .bool false) rfl (fun _ => rfl) (fun _ => rfl) (fun γ w h => ex_not (r := true) rfl) rfl) ?_
    refine GSteps.cons (gm_val (v := .bool false) rfl (fun _ => rfl) (fun _ => rfl) (fun γ w h => ex_move _) rfl) ?_
    refine GSteps.cons (gm_val (v := .bool true) rfl (fun _ => rfl) (fun _ => rfl) (fun γ w h => ex_move _) rfl) ?_
    refine GSteps.cons (gm_val (v := .bool false) rfl (fun _ => rfl) (fun _ => rfl) (fun γ w h => ex_not (r := true) rfl) rfl) ?_
    refine GSteps.cons (gm_val (v := .bool false) rfl (fun _ => rfl) (fun _ => rfl) (fun γ w h => ex_pick (r := false) rfl) rfl) ?_
    exact GSteps.nil
  intro _ w28 hb28 _ _
  refine th_r ?_
  have A29 := A23.keep hb28.out
  have A30 := A24.keep hb28.out
  have A31 := A25.keep hb28.out
  have A32 := A26.keep hb28.out
  have HB33 := below_then HB27 hb28.out
  refine wp_cond_false rfl ?_
  refine wp_skip ?_
  refine th_r ?_
  refine wp_seq (region_m (F := fun _ => ⟨List.toArray ((sv [.n 6 (bx0 P.pt), .n 6 (bx1 P.pt), .n 6 (by0 P.pt), .n 6 (by1 P.pt), .b (bi P.pt)]) :: (sv [.n 6 (bx0 Q.pt), .n 6 (bx1 Q.pt), .n 6 (by0 Q.pt), .n 6 (by1 Q.pt), .b (bi Q.pt)]) :: (.pointer (some ⟨(γ1 0), 0, none⟩)) :: (.pointer (some ⟨(γ1 1), 0, none⟩)) :: (.bool true) :: (.pointer (some ⟨(γ5 0), 0, none⟩)) :: (.int .i64 0) :: (.pointer (some ⟨(γ10 0), 0, none⟩)) :: (.int .i64 0) :: (.bool true) :: (.bool true) :: (.tuple #[sv [.n 6 (bx0 S.pt), .n 6 (bx1 S.pt), .n 6 (by0 S.pt), .n 6 (by1 S.pt), .b (bi S.pt)], .int .i64 0]) :: (sv [.n 6 (bx0 P.pt), .n 6 (bx1 P.pt), .n 6 (by0 P.pt), .n 6 (by1 P.pt), .b (bi P.pt)]) :: (sv [.n 6 (bx0 Q.pt), .n 6 (bx1 Q.pt), .n 6 (by0 Q.pt), .n 6 (by1 Q.pt), .b (bi Q.pt)]) :: (.tuple #[sv [.n 6 (bx0 S.pt), .n 6 (bx1 S.pt), .n 6 (by0 S.pt), .n 6 (by1 S.pt), .b (bi S.pt)], .int .i64 0]) :: (sv [.n 6 (bx0 S.pt), .n 6 (bx1 S.pt), .n 6 (by0 S.pt), .n 6 (by1 S.pt), .b (bi S.pt)]) :: (.int .i64 0) :: (.tuple #[sv [.n 6 (bx0 N.pt), .n 6 (bx1 N.pt), .n 6 (by0 N.pt), .n 6 (by1 N.pt), .b (bi N.pt)], .int .i64 0]) :: (sv [.n 6 (bx0 P.pt), .n 6 (bx1 P.pt), .n 6 (by0 P.pt), .n 6 (by1 P.pt), .b (bi P.pt)]) :: (.tuple #[sv [.n 6 (bx0 N.pt), .n 6 (bx1 N.pt), .n 6 (by0 N.pt), .n 6 (by1 N.pt), .b (bi N.pt)], .int .i64 0]) :: (sv [.n 6 (bx0 N.pt), .n 6 (bx1 N.pt), .n 6 (by0 N.pt), .n 6 (by1 N.pt), .b (bi N.pt)]) :: (.int .i64 0) :: (sv [.n 6 (bx0 P.pt), .n 6 (bx1 P.pt), .n 6 (by0 P.pt), .n 6 (by1 P.pt), .b (bi P.pt)]) :: (.bool true) :: (sv [.n 6 (bx0 Q.pt), .n 6 (bx1 Q.pt), .n 6 (by0 Q.pt), .n 6 (by1 Q.pt), .b (bi Q.pt)]) :: (.bool true) :: (.bool true) :: (.int .i64 0) :: (.bool true) :: (.bool false) :: (.bool false) :: (.bool true) :: (.bool true) :: (sv [.n 6 (bx0 N.pt), .n 6 (bx1 N.pt), .n 6 (by0 N.pt), .n 6 (by1 N.pt), .b (bi N.pt)]) :: (sv [.n 6 (bx0 P.pt), .n 6 (bx1 P.pt), .n 6 (by0 P.pt), .n 6 (by1 P.pt), .b (bi P.pt)]) :: (sv [.n 6 (bx0 N.pt), .n 6 (bx1 N.pt), .n 6 (by0 N.pt), .n 6 (by1 N.pt), .b (bi N.pt)]) :: (.bool false) :: (.bool false) :: (.bool false) :: (.bool false) :: (.bool true) :: (.bool false) :: (.bool false) :: undef :: undef :: undef :: undef :: undef :: undef :: undef :: (.bool false) :: (.bool false) :: (.bool true) :: (.bool false) :: (.bool false) :: (.bool true) :: (.bool false) :: (.bool false) :: undef :: undef :: undef :: undef :: undef :: undef :: undef :: undef :: undef :: undef :: (.bool true) :: (.bool true) :: (.int .i64 0) :: (.bool true) :: (.bool true) :: (.bool true) :: (sv [.n 6 (bx0 P.pt), .n 6 (bx1 P.pt), .n 6 (by0 P.pt), .n 6 (by1 P.pt), .b (bi P.pt)]) :: (sv [.n 6 (bx0 Q.pt), .n 6 (bx1 Q.pt), .n 6 (by0 Q.pt), .n 6 (by1 Q.pt), .b (bi Q.pt)]) :: (sv [.n 6 (bx0 S.pt), .n 6 (bx1 S.pt), .n 6 (by0 S.pt), .n 6 (by1 S.pt), .b (bi S.pt)]) :: (.bool true) :: (.bool true) :: []), []⟩) 0 (fun _ => 0) (fun _ => 0) (fun _ => 0) (fun _ => []) (fun _ => []) [68, 69, 70, 71, 72, 73, 74, 75, 76, 77, 78, 4] (.inr ⟨rfl, by kernel_rfl⟩) (by kernel_rfl) rfl rfl rfl ?_ ?_)
  · refine GSteps.cons (gm_call (v := .bool true) rfl (fun _ => rfl) (fun _ => rfl) (fun γ w => ex_call (vs := []) rfl Tryz.call11 rfl) (fun w h => twoalive_v _) rfl) ?_
    refine GSteps.cons (gm_val (v := .bool true) rfl (fun _ => rfl) (fun _ => rfl) (fun γ w h => ex_move _) rfl) ?_
    refine GSteps.cons (gm_val (v := .int .i64 0) rfl (fun _ => rfl) (fun _ => rfl) (fun γ w h => ex_move _) rfl) ?_
    refine GSteps.cons (gm_val (v := .bool true) rfl (fun _ => rfl) (fun _ => rfl) (fun γ w h => ex_eqi rfl rfl _ rfl) rfl) ?_
    refine GSteps.cons (gm_val (v := .bool true) rfl (fun _ => rfl) (fun _ => rfl) (fun γ w h => ex_pick (r := true) rfl) rfl) ?_
    refine GSteps.cons (gm_val (v := .bool true) rfl (fun _ => rfl) (fun _ => rfl) (fun γ w h => ex_move _) rfl) ?_
    refine GSteps.cons (gm_val (v := sv [.n 6 (bx0 P.pt), .n 6 (bx1 P.pt), .n 6 (by0 P.pt), .n 6 (by1 P.pt), .b (bi P.pt)]) rfl (fun _ => rfl) (fun _ => rfl) (fun γ w h => ex_loads 0 5 (m := [.n 6 (bx0 P.pt), .n 6 (bx1 P.pt), .n 6 (by0 P.pt), .n 6 (by1 P.pt), .b (bi P.pt)]) flG2 rfl rfl (A29.keep h.out) rfl rfl) rfl) ?_
    refine GSteps.cons (gm_val (v := sv [.n 6 (bx0 Q.pt), .n 6 (bx1 Q.pt), .n 6 (by0 Q.pt), .n 6 (by1 Q.pt), .b (bi Q.pt)]) rfl (fun _ => rfl) (fun _ => rfl) (fun γ w h => ex_loads 0 5 (m := [.n 6 (bx0 Q.pt), .n 6 (bx1 Q.pt), .n 6 (by0 Q.pt), .n 6 (by1 Q.pt), .b (bi Q.pt)]) flG2 rfl rfl (A30.keep h.out) rfl rfl) rfl) ?_
    refine GSteps.cons (gm_val (v := sv [.n 6 (bx0 S.pt), .n 6 (bx1 S.pt), .n 6 (by0 S.pt), .n 6 (by1 S.pt), .b (bi S.pt)]) rfl (fun _ => rfl) (fun _ => rfl) (fun γ w h => ex_loads 0 5 (m := [.n 6 (bx0 S.pt), .n 6 (bx1 S.pt), .n 6 (by0 S.pt), .n 6 (by1 S.pt), .b (bi S.pt)]) flG2 rfl rfl (A31.keep h.out) rfl rfl) rfl) ?_
    refine GSteps.cons (gm_call (v := .bool true) rfl (fun _ => rfl) (fun _ => rfl) (fun γ w => ex_call (vs := [sv [.n 6 (bx0 P.pt), .n 6 (bx1 P.pt), .n 6 (by0 P.pt), .n 6 (by1 P.pt), .b (bi P.pt)], sv [.n 6 (bx0 Q.pt), .n 6 (bx1 Q.pt), .n 6 (by0 Q.pt), .n 6 (by1 Q.pt), .b (bi Q.pt)], sv [.n 6 (bx0 S.pt), .n 6 (bx1 S.pt), .n 6 (by0 S.pt), .n 6 (by1 S.pt), .b (bi S.pt)]]) rfl Tryz.call12 rfl) (fun w h => r9Sum_q P Q S hS.symm _) rfl) ?_
    refine GSteps.cons (gm_val (v := .bool true) rfl (fun _ => rfl) (fun _ => rfl) (fun γ w h => ex_pick (r := true) rfl) rfl) ?_
    refine GSteps.cons (gm_val (v := .bool true) rfl (fun _ => rfl) (fun _ => rfl) (fun γ w h => ex_assign _) rfl) ?_
    exact GSteps.nil
  intro _ w34 hb34 _ _
  refine th_r ?_
  have A35 := A29.keep hb34.out
  have A36 := A30.keep hb34.out
  have A37 := A31.keep hb34.out
  have A38 := A32.keep hb34.out
  have HB39 := below_then HB33 hb34.out
  exact wp_ret (bodyPost_ret (ret1 Tryz.results3 (res_tmp rfl)) rfl ⟨rfl, HB39⟩)

set_option maxRecDepth 20000 in
set_option maxHeartbeats 4000000 in
theorem twoSums_pn (P : E2) (x0 : Nat) (x1 : Nat) (y0 : Nat) (y1 : Nat) (i : Bool) (hx0 : x0 < fpB) (hx1 : x1 < fpB) (hy0 : y0 < fpB) (hy1 : y1 < fpB) (h0 : ¬ RawOk2 x0 x1 y0 y1 i) (w : World) :
    Calls Tryz.prog 3 #[sv [.n 6 (bx0 P.pt), .n 6 (bx1 P.pt), .n 6 (by0 P.pt), .n 6 (by1 P.pt), .b (bi P.pt)], sv [.n 6 x0, .n 6 x1, .n 6 y0, .n 6 y1, .b i]] w (Is (.bool true) w) := by
  obtain ⟨N, hN⟩ : ∃ q_ : E2, q_ = P.neg := ⟨_, rfl⟩
  go_enter Tryz.func3, Tryz.ntmps3
  refine wp_seq (region_m (F := fun γ => ⟨List.toArray ((sv [.n 6 (bx0 P.pt), .n 6 (bx1 P.pt), .n 6 (by0 P.pt), .n 6 (by1 P.pt), .b (bi P.pt)]) :: (sv [.n 6 x0, .n 6 x1, .n 6 y0, .n 6 y1, .b i]) :: (.pointer (some ⟨γ 0, 0, none⟩)) :: (.pointer (some ⟨γ 1, 0, none⟩)) :: (.bool false) :: undef :: undef :: undef :: undef :: undef :: undef :: undef :: undef :: undef :: undef :: undef :: undef :: undef :: undef :: undef :: undef :: undef :: undef :: undef :: undef :: undef :: undef :: undef :: undef :: undef :: undef :: undef :: undef :: undef :: undef :: undef :: undef :: undef :: undef :: undef :: undef :: undef :: undef :: undef :: undef :: undef :: undef :: undef :: undef :: undef :: undef :: undef :: undef :: undef :: undef :: undef :: undef :: undef :: undef :: undef :: undef :: undef :: undef :: undef :: undef :: undef :: undef :: undef :: undef :: undef :: undef :: undef :: undef :: undef :: undef :: undef :: undef :: undef :: undef :: []), []⟩) 2 (fun j_ => match j_ with | 0 => 28 | _ => 28) (fun j_ => match j_ with | 0 => 0 | _ => 1) (fun j_ => match j_ with | 0 => 0 | _ => 1) (fun j_ => match j_ with | 0 => segs [.n 6 (bx0 P.pt), .n 6 (bx1 P.pt), .n 6 (by0 P.pt), .n 6 (by1 P.pt), .b (bi P.pt)] | _ => segs [.n 6 x0, .n 6 x1, .n 6 y0, .n 6 y1, .b i]) (fun j_ => match j_ with | 0 => segs [.n 6 (bx0 P.pt), .n 6 (bx1 P.pt), .n 6 (by0 P.pt), .n 6 (by1 P.pt), .b (bi P.pt)] | _ => segs [.n 6 x0, .n 6 x1, .n 6 y0, .n 6 y1, .b i]) [2, 3, 4] (.inr ⟨rfl, by kernel_rfl⟩) (by kernel_rfl) rfl rfl rfl ?_ ?_)
  · refine GSteps.cons (gm_box 0 rfl (fun _ => rfl) (fun _ _ => rfl) (fun γ w h => ex_boxs (l := [.n 6 (bx0 P.pt), .n 6 (bx1 P.pt), .n 6 (by0 P.pt), .n 6 (by1 P.pt), .b (bi P.pt)]) rfl) rfl rfl rfl) ?_
    refine GSteps.cons (gm_box 1 rfl (fun _ => rfl) (fun _ _ => rfl) (fun γ w h => ex_boxs (l := [.n 6 x0, .n 6 x1, .n 6 y0, .n 6 y1, .b i]) rfl) rfl rfl rfl) ?_
    refine GSteps.cons (gm_val (v := .bool false) rfl (fun _ => rfl) (fun _ => rfl) (fun γ w h => ex_assign _) rfl) ?_
    exact GSteps.nil
  intro γ1 w1 hb1 hB1 hn1
  refine th_r ?_
  have A2 : SB 28 w1 (γ1 0) [.n 6 (bx0 P.pt), .n 6 (bx1 P.pt), .n 6 (by0 P.pt), .n 6 (by1 P.pt), .b (bi P.pt)] := (hB1 0 (by decide)).2
  have le2 := (hB1 0 (by decide)).1
  have A3 : SB 28 w1 (γ1 1) [.n 6 x0, .n 6 x1, .n 6 y0, .n 6 y1, .b i] := (hB1 1 (by decide)).2
  have le3 := (hB1 1 (by decide)).1
  have HB4 := below_then (Below.refl w.heap.size w) hb1.out
  refine wp_seq (region_m (F := fun γ => ⟨List.toArray ((sv [.n 6 (bx0 P.pt), .n 6 (bx1 P.pt), .n 6 (by0 P.pt), .n 6 (by1 P.pt), .b (bi P.pt)]) :: (sv [.n 6 x0, .n 6 x1, .n 6 y0, .n 6 y1, .b i]) :: (.pointer (some ⟨(γ1 0), 0, none⟩)) :: (.pointer (some ⟨(γ1 1), 0, none⟩)) :: (.bool false) :: (.pointer (some ⟨γ 0, 0, none⟩)) :: (.int .i64 30) :: undef :: undef :: undef :: undef :: (.tuple #[sv [.n 6 0, .n 6 0, .n 6 0, .n 6 0, .b false], .int .i64 30]) :: (sv [.n 6 (bx0 P.pt), .n 6 (bx1 P.pt), .n 6 (by0 P.pt), .n 6 (by1 P.pt), .b (bi P.pt)]) :: (sv [.n 6 x0, .n 6 x1, .n 6 y0, .n 6 y1, .b i]) :: (.tuple #[sv [.n 6 0, .n 6 0, .n 6 0, .n 6 0, .b false], .int .i64 30]) :: (sv [.n 6 0, .n 6 0, .n 6 0, .n 6 0, .b false]) :: (.int .i64 30) :: undef :: undef :: undef :: undef :: undef :: undef :: undef :: undef :: undef :: undef :: undef :: undef :: undef :: undef :: undef :: undef :: undef :: undef :: undef :: undef :: undef :: undef :: undef :: undef :: undef :: undef :: undef :: undef :: undef :: undef :: undef :: undef :: undef :: undef :: undef :: undef :: undef :: undef :: undef :: undef :: undef :: undef :: undef :: undef :: undef :: undef :: undef :: undef :: undef :: undef :: undef :: undef :: undef :: undef :: undef :: undef :: undef :: undef :: undef :: undef :: undef :: undef :: []), []⟩) 1 (fun _ => 28) (fun _ => 6) (fun _ => 7) (fun _ => segs [.n 6 0, .n 6 0, .n 6 0, .n 6 0, .b false]) (fun _ => segs [.n 6 0, .n 6 0, .n 6 0, .n 6 0, .b false]) [12, 13, 14, 11, 15, 16, 5, 6] (.inr ⟨rfl, by kernel_rfl⟩) (by kernel_rfl) rfl rfl rfl ?_ ?_)
  · refine GSteps.cons (gm_val (v := sv [.n 6 (bx0 P.pt), .n 6 (bx1 P.pt), .n 6 (by0 P.pt), .n 6 (by1 P.pt), .b (bi P.pt)]) rfl (fun _ => rfl) (fun _ => rfl) (fun γ w h => ex_loads 0 5 (m := [.n 6 (bx0 P.pt), .n 6 (bx1 P.pt), .n 6 (by0 P.pt), .n 6 (by1 P.pt), .b (bi P.pt)]) flG2 rfl rfl (A2.keep h.out) rfl rfl) rfl) ?_
    refine GSteps.cons (gm_val (v := sv [.n 6 x0, .n 6 x1, .n 6 y0, .n 6 y1, .b i]) rfl (fun _ => rfl) (fun _ => rfl) (fun γ w h => ex_loads 0 5 (m := [.n 6 x0, .n 6 x1, .n 6 y0, .n 6 y1, .b i]) flG2 rfl rfl (A3.keep h.out) rfl rfl) rfl) ?_
    refine GSteps.cons (gm_call (v := .tuple #[sv [.n 6 0, .n 6 0, .n 6 0, .n 6 0, .b false], .int .i64 30]) rfl (fun _ => rfl) (fun _ => rfl) (fun γ w => ex_call (vs := [sv [.n 6 (bx0 P.pt), .n 6 (bx1 P.pt), .n 6 (by0 P.pt), .n 6 (by1 P.pt), .b (bi P.pt)], sv [.n 6 x0, .n 6 x1, .n 6 y0, .n 6 y1, .b i]]) rfl Tryz.call7 rfl) (fun w h => twoAdd_n2 P x0 x1 y0 y1 i hx0 hx1 hy0 hy1 h0 _) rfl) ?_
    refine GSteps.cons (gm_val (v := .tuple #[sv [.n 6 0, .n 6 0, .n 6 0, .n 6 0, .b false], .int .i64 30]) rfl (fun _ => rfl) (fun _ => rfl) (fun γ w h => ex_move _) rfl) ?_
    refine GSteps.cons (gm_val (v := sv [.n 6 0, .n 6 0, .n 6 0, .n 6 0, .b false]) rfl (fun _ => rfl) (fun _ => rfl) (fun γ w h => ex_extract (vs := [sv [.n 6 0, .n 6 0, .n 6 0, .n 6 0, .b false], .int .i64 30]) rfl rfl) rfl) ?_
    refine GSteps.cons (gm_val (v := .int .i64 30) rfl (fun _ => rfl) (fun _ => rfl) (fun γ w h => ex_extract (vs := [sv [.n 6 0, .n 6 0, .n 6 0, .n 6 0, .b false], .int .i64 30]) rfl rfl) rfl) ?_
    refine GSteps.cons (gm_new 0 rfl (fun _ => rfl) (fun _ _ => rfl) (fun γ w => ex_allocs (l := [.n 6 0, .n 6 0, .n 6 0, .n 6 0, .b false]) zG2) rfl (by kernel_rfl)) ?_
    refine GSteps.cons (gm_store 0 rfl rfl (fun _ => rfl) (len_segs (l := [.n 6 0, .n 6 0, .n 6 0, .n 6 0, .b false]) (l' := [.n 6 0, .n 6 0, .n 6 0, .n 6 0, .b false]) rfl) (fun γ w h => ex_stores 0 5 (l := [.n 6 0, .n 6 0, .n 6 0, .n 6 0, .b false]) (m := [.n 6 0, .n 6 0, .n 6 0, .n 6 0, .b false]) flG2.2 rfl rfl rfl rfl h rfl rfl) rfl rfl (by kernel_rfl)) ?_
    refine GSteps.cons (gm_val (v := .int .i64 30) rfl (fun _ => rfl) (fun _ => rfl) (fun γ w h => ex_assign _) rfl) ?_
    exact GSteps.nil
  intro γ5 w5 hb5 hB5 _
  refine th_r ?_
  have A6 := A2.keep hb5.out
  have A7 := A3.keep hb5.out
  have A8 : SB 28 w5 (γ5 0) [.n 6 0, .n 6 0, .n 6 0, .n 6 0, .b false] := (hB5 0 (by decide)).2
  have le8 := (hB5 0 (by decide)).1
  have HB9 := below_then HB4 hb5.out
  refine wp_seq (region_m (F := fun γ => ⟨List.toArray ((sv [.n 6 (bx0 P.pt), .n 6 (bx1 P.pt), .n 6 (by0 P.pt), .n 6 (by1 P.pt), .b (bi P.pt)]) :: (sv [.n 6 x0, .n 6 x1, .n 6 y0, .n 6 y1, .b i]) :: (.pointer (some ⟨(γ1 0), 0, none⟩)) :: (.pointer (some ⟨(γ1 1), 0, none⟩)) :: (.bool false) :: (.pointer (some ⟨(γ5 0), 0, none⟩)) :: (.int .i64 30) :: (.pointer (some ⟨γ 0, 0, none⟩)) :: (.int .i64 0) :: undef :: undef :: (.tuple #[sv [.n 6 0, .n 6 0, .n 6 0, .n 6 0, .b false], .int .i64 30]) :: (sv [.n 6 (bx0 P.pt), .n 6 (bx1 P.pt), .n 6 (by0 P.pt), .n 6 (by1 P.pt), .b (bi P.pt)]) :: (sv [.n 6 x0, .n 6 x1, .n 6 y0, .n 6 y1, .b i]) :: (.tuple #[sv [.n 6 0, .n 6 0, .n 6 0, .n 6 0, .b false], .int .i64 30]) :: (sv [.n 6 0, .n 6 0, .n 6 0, .n 6 0, .b false]) :: (.int .i64 30) :: (.tuple #[sv [.n 6 (bx0 N.pt), .n 6 (bx1 N.pt), .n 6 (by0 N.pt), .n 6 (by1 N.pt), .b (bi N.pt)], .int .i64 0]) :: (sv [.n 6 (bx0 P.pt), .n 6 (bx1 P.pt), .n 6 (by0 P.pt), .n 6 (by1 P.pt), .b (bi P.pt)]) :: (.tuple #[sv [.n 6 (bx0 N.pt), .n 6 (bx1 N.pt), .n 6 (by0 N.pt), .n 6 (by1 N.pt), .b (bi N.pt)], .int .i64 0]) :: (sv [.n 6 (bx0 N.pt), .n 6 (bx1 N.pt), .n 6 (by0 N.pt), .n 6 (by1 N.pt), .b (bi N.pt)]) :: (.int .i64 0) :: undef :: undef :: undef :: undef :: undef :: undef :: undef :: undef :: undef :: undef :: undef :: undef :: undef :: undef :: undef :: undef :: undef :: undef :: undef :: undef :: undef :: undef :: undef :: undef :: undef :: undef :: undef :: undef :: undef :: undef :: undef :: undef :: undef :: undef :: undef :: undef :: undef :: undef :: undef :: undef :: undef :: undef :: undef :: undef :: undef :: undef :: undef :: undef :: undef :: undef :: undef :: undef :: undef :: undef :: undef :: undef :: undef :: []), []⟩) 1 (fun _ => 28) (fun _ => 5) (fun _ => 6) (fun _ => segs [.n 6 0, .n 6 0, .n 6 0, .n 6 0, .b false]) (fun _ => segs [.n 6 (bx0 N.pt), .n 6 (bx1 N.pt), .n 6 (by0 N.pt), .n 6 (by1 N.pt), .b (bi N.pt)]) [18, 19, 17, 20, 21, 7, 8] (.inr ⟨rfl, by kernel_rfl⟩) (by kernel_rfl) rfl rfl rfl ?_ ?_)
  · refine GSteps.cons (gm_val (v := sv [.n 6 (bx0 P.pt), .n 6 (bx1 P.pt), .n 6 (by0 P.pt), .n 6 (by1 P.pt), .b (bi P.pt)]) rfl (fun _ => rfl) (fun _ => rfl) (fun γ w h => ex_loads 0 5 (m := [.n 6 (bx0 P.pt), .n 6 (bx1 P.pt), .n 6 (by0 P.pt), .n 6 (by1 P.pt), .b (bi P.pt)]) flG2 rfl rfl (A6.keep h.out) rfl rfl) rfl) ?_
    refine GSteps.cons (gm_call (v := .tuple #[sv [.n 6 (bx0 N.pt), .n 6 (bx1 N.pt), .n 6 (by0 N.pt), .n 6 (by1 N.pt), .b (bi N.pt)], .int .i64 0]) rfl (fun _ => rfl) (fun _ => rfl) (fun γ w => ex_call (vs := [sv [.n 6 (bx0 P.pt), .n 6 (bx1 P.pt), .n 6 (by0 P.pt), .n 6 (by1 P.pt), .b (bi P.pt)]]) rfl Tryz.call8 rfl) (fun w h => twoNeg_q P N hN.symm _) rfl) ?_
    refine GSteps.cons (gm_val (v := .tuple #[sv [.n 6 (bx0 N.pt), .n 6 (bx1 N.pt), .n 6 (by0 N.pt), .n 6 (by1 N.pt), .b (bi N.pt)], .int .i64 0]) rfl (fun _ => rfl) (fun _ => rfl) (fun γ w h => ex_move _) rfl) ?_
    refine GSteps.cons (gm_val (v := sv [.n 6 (bx0 N.pt), .n 6 (bx1 N.pt), .n 6 (by0 N.pt), .n 6 (by1 N.pt), .b (bi N.pt)]) rfl (fun _ => rfl) (fun _ => rfl) (fun γ w h => ex_extract (vs := [sv [.n 6 (bx0 N.pt), .n 6 (bx1 N.pt), .n 6 (by0 N.pt), .n 6 (by1 N.pt), .b (bi N.pt)], .int .i64 0]) rfl rfl) rfl) ?_
    refine GSteps.cons (gm_val (v := .int .i64 0) rfl (fun _ => rfl) (fun _ => rfl) (fun γ w h => ex_extract (vs := [sv [.n 6 (bx0 N.pt), .n 6 (bx1 N.pt), .n 6 (by0 N.pt), .n 6 (by1 N.pt), .b (bi N.pt)], .int .i64 0]) rfl rfl) rfl) ?_
    refine GSteps.cons (gm_new 0 rfl (fun _ => rfl) (fun _ _ => rfl) (fun γ w => ex_allocs (l := [.n 6 0, .n 6 0, .n 6 0, .n 6 0, .b false]) zG2) rfl (by kernel_rfl)) ?_
    refine GSteps.cons (gm_store 0 rfl rfl (fun _ => rfl) (len_segs (l := [.n 6 (bx0 N.pt), .n 6 (bx1 N.pt), .n 6 (by0 N.pt), .n 6 (by1 N.pt), .b (bi N.pt)]) (l' := [.n 6 0, .n 6 0, .n 6 0, .n 6 0, .b false]) rfl) (fun γ w h => ex_stores 0 5 (l := [.n 6 0, .n 6 0, .n 6 0, .n 6 0, .b false]) (m := [.n 6 (bx0 N.pt), .n 6 (bx1 N.pt), .n 6 (by0 N.pt), .n 6 (by1 N.pt), .b (bi N.pt)]) flG2.2 rfl rfl rfl rfl h rfl rfl) rfl rfl (by kernel_rfl)) ?_
    refine GSteps.cons (gm_val (v := .int .i64 0) rfl (fun _ => rfl) (fun _ => rfl) (fun γ w h => ex_assign _) rfl) ?_
    exact GSteps.nil
  intro γ10 w10 hb10 hB10 _
  refine th_r ?_
  have A11 := A6.keep hb10.out
  have A12 := A7.keep hb10.out
  have A13 := A8.keep hb10.out
  have A14 : SB 28 w10 (γ10 0) [.n 6 (bx0 N.pt), .n 6 (bx1 N.pt), .n 6 (by0 N.pt), .n 6 (by1 N.pt), .b (bi N.pt)] := (hB10 0 (by decide)).2
  have le14 := (hB10 0 (by decide)).1
  have HB15 := below_then HB9 hb10.out
  refine wp_seq (region_m (F := fun _ => ⟨List.toArray ((sv [.n 6 (bx0 P.pt), .n 6 (bx1 P.pt), .n 6 (by0 P.pt), .n 6 (by1 P.pt), .b (bi P.pt)]) :: (sv [.n 6 x0, .n 6 x1, .n 6 y0, .n 6 y1, .b i]) :: (.pointer (some ⟨(γ1 0), 0, none⟩)) :: (.pointer (some ⟨(γ1 1), 0, none⟩)) :: (.bool false) :: (.pointer (some ⟨(γ5 0), 0, none⟩)) :: (.int .i64 30) :: (.pointer (some ⟨(γ10 0), 0, none⟩)) :: (.int .i64 0) :: (.bool true) :: (.bool false) :: (.tuple #[sv [.n 6 0, .n 6 0, .n 6 0, .n 6 0, .b false], .int .i64 30]) :: (sv [.n 6 (bx0 P.pt), .n 6 (bx1 P.pt), .n 6 (by0 P.pt), .n 6 (by1 P.pt), .b (bi P.pt)]) :: (sv [.n 6 x0, .n 6 x1, .n 6 y0, .n 6 y1, .b i]) :: (.tuple #[sv [.n 6 0, .n 6 0, .n 6 0, .n 6 0, .b false], .int .i64 30]) :: (sv [.n 6 0, .n 6 0, .n 6 0, .n 6 0, .b false]) :: (.int .i64 30) :: (.tuple #[sv [.n 6 (bx0 N.pt), .n 6 (bx1 N.pt), .n 6 (by0 N.pt), .n 6 (by1 N.pt), .b (bi N.pt)], .int .i64 0]) :: (sv [.n 6 (bx0 P.pt), .n 6 (bx1 P.pt), .n 6 (by0 P.pt), .n 6 (by1 P.pt), .b (bi P.pt)]) :: (.tuple #[sv [.n 6 (bx0 N.pt), .n 6 (bx1 N.pt), .n 6 (by0 N.pt), .n 6 (by1 N.pt), .b (bi N.pt)], .int .i64 0]) :: (sv [.n 6 (bx0 N.pt), .n 6 (bx1 N.pt), .n 6 (by0 N.pt), .n 6 (by1 N.pt), .b (bi N.pt)]) :: (.int .i64 0) :: (sv [.n 6 (bx0 P.pt), .n 6 (bx1 P.pt), .n 6 (by0 P.pt), .n 6 (by1 P.pt), .b (bi P.pt)]) :: (.bool true) :: (sv [.n 6 x0, .n 6 x1, .n 6 y0, .n 6 y1, .b i]) :: (.bool false) :: undef :: undef :: undef :: undef :: undef :: undef :: undef :: undef :: undef :: undef :: undef :: undef :: undef :: undef :: undef :: undef :: undef :: undef :: undef :: undef :: undef :: undef :: undef :: undef :: undef :: undef :: undef :: undef :: undef :: undef :: undef :: undef :: undef :: undef :: undef :: undef :: undef :: undef :: undef :: undef :: undef :: undef :: undef :: undef :: undef :: undef :: undef :: undef :: undef :: undef :: undef :: undef :: undef :: []), []⟩) 0 (fun _ => 0) (fun _ => 0) (fun _ => 0) (fun _ => []) (fun _ => []) [22, 23, 24, 25, 9, 10] (.inl ⟨rfl, by kernel_rfl⟩) (by kernel_rfl) rfl rfl rfl ?_ ?_)
  · refine GSteps.cons (gm_val (v := sv [.n 6 (bx0 P.pt), .n 6 (bx1 P.pt), .n 6 (by0 P.pt), .n 6 (by1 P.pt), .b (bi P.pt)]) rfl (fun _ => rfl) (fun _ => rfl) (fun γ w h => ex_loads 0 5 (m := [.n 6 (bx0 P.pt), .n 6 (bx1 P.pt), .n 6 (by0 P.pt), .n 6 (by1 P.pt), .b (bi P.pt)]) flG2 rfl rfl (A11.keep h.out) rfl rfl) rfl) ?_
    refine GSteps.cons (gm_call (v := .bool true) rfl (fun _ => rfl) (fun _ => rfl) (fun γ w => ex_call (vs := [sv [.n 6 (bx0 P.pt), .n 6 (bx1 P.pt), .n 6 (by0 P.pt), .n 6 (by1 P.pt), .b (bi P.pt)]]) rfl Tryz.call9 rfl) (fun w h => r9Right_p P _) rfl) ?_
    refine GSteps.cons (gm_val (v := sv [.n 6 x0, .n 6 x1, .n 6 y0, .n 6 y1, .b i]) rfl (fun _ => rfl) (fun _ => rfl) (fun γ w h => ex_loads 0 5 (m := [.n 6 x0, .n 6 x1, .n 6 y0, .n 6 y1, .b i]) flG2 rfl rfl (A12.keep h.out) rfl rfl) rfl) ?_
    refine GSteps.cons (gm_call (v := .bool false) rfl (fun _ => rfl) (fun _ => rfl) (fun γ w => ex_call (vs := [sv [.n 6 x0, .n 6 x1, .n 6 y0, .n 6 y1, .b i]]) rfl Tryz.call9 rfl) (fun w h => r9Right_no hx0 hx1 hy0 hy1 h0 _) rfl) ?_
    refine GSteps.cons (gm_val (v := .bool true) rfl (fun _ => rfl) (fun _ => rfl) (fun γ w h => ex_assign _) rfl) ?_
    refine GSteps.cons (gm_val (v := .bool false) rfl (fun _ => rfl) (fun _ => rfl) (fun γ w h => ex_assign _) rfl) ?_
    exact GSteps.nil
  intro _ w16 hb16 _ _
  refine th_r ?_
  have A17 := A11.keep hb16.out
  have A18 := A12.keep hb16.out
  have A19 := A13.keep hb16.out
  have A20 := A14.keep hb16.out
  have HB21 := below_then HB15 hb16.out
  refine wp_seq ?_
  refine wp_seq (region_m (F := fun _ => ⟨List.toArray ((sv [.n 6 (bx0 P.pt), .n 6 (bx1 P.pt), .n 6 (by0 P.pt), .n 6 (by1 P.pt), .b (bi P.pt)]) :: (sv [.n 6 x0, .n 6 x1, .n 6 y0, .n 6 y1, .b i]) :: (.pointer (some ⟨(γ1 0), 0, none⟩)) :: (.pointer (some ⟨(γ1 1), 0, none⟩)) :: (.bool false) :: (.pointer (some ⟨(γ5 0), 0, none⟩)) :: (.int .i64 30) :: (.pointer (some ⟨(γ10 0), 0, none⟩)) :: (.int .i64 0) :: (.bool true) :: (.bool false) :: (.tuple #[sv [.n 6 0, .n 6 0, .n 6 0, .n 6 0, .b false], .int .i64 30]) :: (sv [.n 6 (bx0 P.pt), .n 6 (bx1 P.pt), .n 6 (by0 P.pt), .n 6 (by1 P.pt), .b (bi P.pt)]) :: (sv [.n 6 x0, .n 6 x1, .n 6 y0, .n 6 y1, .b i]) :: (.tuple #[sv [.n 6 0, .n 6 0, .n 6 0, .n 6 0, .b false], .int .i64 30]) :: (sv [.n 6 0, .n 6 0, .n 6 0, .n 6 0, .b false]) :: (.int .i64 30) :: (.tuple #[sv [.n 6 (bx0 N.pt), .n 6 (bx1 N.pt), .n 6 (by0 N.pt), .n 6 (by1 N.pt), .b (bi N.pt)], .int .i64 0]) :: (sv [.n 6 (bx0 P.pt), .n 6 (bx1 P.pt), .n 6 (by0 P.pt), .n 6 (by1 P.pt), .b (bi P.pt)]) :: (.tuple #[sv [.n 6 (bx0 N.pt), .n 6 (bx1 N.pt), .n 6 (by0 N.pt), .n 6 (by1 N.pt), .b (bi N.pt)], .int .i64 0]) :: (sv [.n 6 (bx0 N.pt), .n 6 (bx1 N.pt), .n 6 (by0 N.pt), .n 6 (by1 N.pt), .b (bi N.pt)]) :: (.int .i64 0) :: (sv [.n 6 (bx0 P.pt), .n 6 (bx1 P.pt), .n 6 (by0 P.pt), .n 6 (by1 P.pt), .b (bi P.pt)]) :: (.bool true) :: (sv [.n 6 x0, .n 6 x1, .n 6 y0, .n 6 y1, .b i]) :: (.bool false) :: (.bool true) :: (.int .i64 0) :: (.bool true) :: (.bool false) :: (.bool false) :: (.bool true) :: (.bool true) :: (sv [.n 6 (bx0 N.pt), .n 6 (bx1 N.pt), .n 6 (by0 N.pt), .n 6 (by1 N.pt), .b (bi N.pt)]) :: (sv [.n 6 (bx0 P.pt), .n 6 (bx1 P.pt), .n 6 (by0 P.pt), .n 6 (by1 P.pt), .b (bi P.pt)]) :: (sv [.n 6 (bx0 N.pt), .n 6 (bx1 N.pt), .n 6 (by0 N.pt), .n 6 (by1 N.pt), .b (bi N.pt)]) :: (.bool false) :: (.bool false) :: (.bool false) :: (.bool false) :: (.bool true) :: (.bool false) :: (.bool false) :: undef :: undef :: undef :: undef :: undef :: undef :: undef :: (.bool false) :: (.bool false) :: undef :: undef :: undef :: undef :: undef :: undef :: undef :: undef :: undef :: undef :: undef :: undef :: undef :: undef :: undef :: undef :: undef :: undef :: undef :: undef :: undef :: undef :: undef :: undef :: undef :: undef :: undef :: []), []⟩) 0 (fun _ => 0) (fun _ => 0) (fun _ => 0) (fun _ => []) (fun _ => []) [26, 27, 28, 29, 30, 31, 32, 33, 34, 35, 36, 37, 38, 39, 40, 41, 42, 43, 44, 45, 46, 47, 48, 49, 50, 51] (.inl ⟨rfl, by kernel_rfl⟩) (by kernel_rfl) rfl rfl rfl ?_ ?_)
  · refine GSteps.cons (gm_val (v := .bool true) rfl (fun _ => rfl) (fun _ => rfl) (fun γ w h => ex_move _) rfl) ?_
    refine GSteps.cons (gm_val (v := .int .i64 0) rfl (fun _ => rfl) (fun _ => rfl) (fun γ w h => ex_move _) rfl) ?_
    refine GSteps.cons (gm_val (v := .bool true) rfl (fun _ => rfl) (fun _ => rfl) (fun γ w h => ex_eqi rfl rfl _ rfl) rfl) ?_
    refine GSteps.cons (gm_val (v := .bool false) rfl (fun _ => rfl) (fun _ => rfl) (fun γ w h => ex_neqb (a := true) (b := true) Tryz.underlying4 rfl rfl _ rfl) rfl) ?_
    refine GSteps.cons (gm_val (v := .bool false) rfl (fun _ => rfl) (fun _ => rfl) (fun γ w h => ex_move _) rfl) ?_
    refine GSteps.cons (gm_val (v := .bool true) rfl (fun _ => rfl) (fun _ => rfl) (fun γ w h => ex_move _) rfl) ?_
    refine GSteps.cons (gm_val (v := .bool true) rfl (fun _ => rfl) (fun _ => rfl) (fun γ w h => ex_move _) rfl) ?_
    refine GSteps.cons (gm_val (v := sv [.n 6 (bx0 N.pt), .n 6 (bx1 N.pt), .n 6 (by0 N.pt), .n 6 (by1 N.pt), .b (bi N.pt)]) rfl (fun _ => rfl) (fun _ => rfl) (fun γ w h => ex_loads 0 5 (m := [.n 6 (bx0 N.pt), .n 6 (bx1 N.pt), .n 6 (by0 N.pt), .n 6 (by1 N.pt), .b (bi N.pt)]) flG2 rfl rfl (A20.keep h.out) rfl rfl) rfl) ?_
    refine GSteps.cons (gm_val (v := sv [.n 6 (bx0 P.pt), .n 6 (bx1 P.pt), .n 6 (by0 P.pt), .n 6 (by1 P.pt), .b (bi P.pt)]) rfl (fun _ => rfl) (fun _ => rfl) (fun γ w h => ex_loads 0 5 (m := [.n 6 (bx0 P.pt), .n 6 (bx1 P.pt), .n 6 (by0 P.pt), .n 6 (by1 P.pt), .b (bi P.pt)]) flG2 rfl rfl (A17.keep h.out) rfl rfl) rfl) ?_
    refine GSteps.cons (gm_call (v := sv [.n 6 (bx0 N.pt), .n 6 (bx1 N.pt), .n 6 (by0 N.pt), .n 6 (by1 N.pt), .b (bi N.pt)]) rfl (fun _ => rfl) (fun _ => rfl) (fun γ w => ex_call (vs := [sv [.n 6 (bx0 P.pt), .n 6 (bx1 P.pt), .n 6 (by0 P.pt), .n 6 (by1 P.pt), .b (bi P.pt)]]) rfl Tryz.call10 rfl) (fun w h => r9Neg_q P N hN.symm _) rfl) ?_
    refine GSteps.cons (gm_val (v := .bool false) rfl (fun _ => rfl) (fun _ => rfl) (fun γ w h => ex_neqs gdG2 eqG2 rfl rfl rfl (shG2_of (bx0_B N.pt) (bx1_B N.pt) (by0_B N.pt) (by1_B N.pt)) (shG2_of (bx0_B N.pt) (bx1_B N.pt) (by0_B N.pt) (by1_B N.pt)) false (by simp)) rfl) ?_
    refine GSteps.cons (gm_val (v := .bool false) rfl (fun _ => rfl) (fun _ => rfl) (fun γ w h => ex_pick (r := true) rfl) rfl) ?_
    refine GSteps.cons (gm_val (v := .bool false) rfl (fun _ => rfl) (fun _ => rfl) (fun γ w h => ex_pick (r := false) rfl) rfl) ?_
    refine GSteps.cons (gm_val (v := .bool false) rfl (fun _ => rfl) (fun _ => rfl) (fun γ w h => ex_move _) rfl) ?_
    refine GSteps.cons (gm_val (v := .bool true) rfl (fun _ => rfl) (fun _ => rfl) (fun γ w h => ex_move _) rfl) ?_
    refine GSteps.cons (gm_val (v := .bool false) rfl (fun _ => rfl) (fun _ => rfl) (fun γ w h => ex_not (r := true) rfl) rfl) ?_
    refine GSteps.cons (gm_val (v := .bool false) rfl (fun _ => rfl) (fun _ => rfl) (fun γ w h => ex_move _) rfl) ?_
    refine GSteps.cons (gm_skip rfl (fun _ => rfl) (fun _ => rfl) rfl) ?_
    refine GSteps.cons (gm_skip rfl (fun _ => rfl) (fun _ => rfl) rfl) ?_
    refine GSteps.cons (gm_skip rfl (fun _ => rfl) (fun _ => rfl) rfl) ?_
    refine GSteps.cons (gm_skip rfl (fun _ => rfl) (fun _ => rfl) rfl) ?_
    refine GSteps.cons (gm_skip rfl (fun _ => rfl) (fun _ => rfl) rfl) ?_
    refine GSteps.cons (gm_skip rfl (fun _ => rfl) (fun _ => rfl) rfl) ?_
    refine GSteps.cons (gm_skip rfl (fun _ => rfl) (fun _ => rfl) rfl) ?_
    refine GSteps.cons (gm_val (v := .bool false) rfl (fun _ => rfl) (fun _ => rfl) (fun γ w h => ex_pick (r := false) rfl) rfl) ?_
    refine GSteps.cons (gm_val (v := .bool false) rfl (fun _ => rfl) (fun _ => rfl) (fun γ w h => ex_pick (r := false) rfl) rfl) ?_
    exact GSteps.nil
  intro _ w22 hb22 _ _
  refine th_r ?_
  have A23 := A17.keep hb22.out
  have A24 := A18.keep hb22.out
  have A25 := A19.keep hb22.out
  have A26 := A20.keep hb22.out
  have HB27 := below_then HB21 hb22.out
  refine wp_cond_false rfl ?_
  refine wp_skip ?_
  refine th_r ?_
  refine wp_seq ?_
  refine wp_seq (region_m (F := fun _ => ⟨List.toArray ((sv [.n 6 (bx0 P.pt), .n 6 (bx1 P.pt), .n 6 (by0 P.pt), .n 6 (by1 P.pt), .b (bi P.pt)]) :: (sv [.n 6 x0, .n 6 x1, .n 6 y0, .n 6 y1, .b i]) :: (.pointer (some ⟨(γ1 0), 0, none⟩)) :: (.pointer (some ⟨(γ1 1), 0, none⟩)) :: (.bool false) :: (.pointer (some ⟨(γ5 0), 0, none⟩)) :: (.int .i64 30) :: (.pointer (some ⟨(γ10 0), 0, none⟩)) :: (.int .i64 0) :: (.bool true) :: (.bool false) :: (.tuple #[sv [.n 6 0, .n 6 0, .n 6 0, .n 6 0, .b false], .int .i64 30]) :: (sv [.n 6 (bx0 P.pt), .n 6 (bx1 P.pt), .n 6 (by0 P.pt), .n 6 (by1 P.pt), .b (bi P.pt)]) :: (sv [.n 6 x0, .n 6 x1, .n 6 y0, .n 6 y1, .b i]) :: (.tuple #[sv [.n 6 0, .n 6 0, .n 6 0, .n 6 0, .b false], .int .i64 30]) :: (sv [.n 6 0, .n 6 0, .n 6 0, .n 6 0, .b false]) :: (.int .i64 30) :: (.tuple #[sv [.n 6 (bx0 N.pt), .n 6 (bx1 N.pt), .n 6 (by0 N.pt), .n 6 (by1 N.pt), .b (bi N.pt)], .int .i64 0]) :: (sv [.n 6 (bx0 P.pt), .n 6 (bx1 P.pt), .n 6 (by0 P.pt), .n 6 (by1 P.pt), .b (bi P.pt)]) :: (.tuple #[sv [.n 6 (bx0 N.pt), .n 6 (bx1 N.pt), .n 6 (by0 N.pt), .n 6 (by1 N.pt), .b (bi N.pt)], .int .i64 0]) :: (sv [.n 6 (bx0 N.pt), .n 6 (bx1 N.pt), .n 6 (by0 N.pt), .n 6 (by1 N.pt), .b (bi N.pt)]) :: (.int .i64 0) :: (sv [.n 6 (bx0 P.pt), .n 6 (bx1 P.pt), .n 6 (by0 P.pt), .n 6 (by1 P.pt), .b (bi P.pt)]) :: (.bool true) :: (sv [.n 6 x0, .n 6 x1, .n 6 y0, .n 6 y1, .b i]) :: (.bool false) :: (.bool true) :: (.int .i64 0) :: (.bool true) :: (.bool false) :: (.bool false) :: (.bool true) :: (.bool true) :: (sv [.n 6 (bx0 N.pt), .n 6 (bx1 N.pt), .n 6 (by0 N.pt), .n 6 (by1 N.pt), .b (bi N.pt)]) :: (sv [.n 6 (bx0 P.pt), .n 6 (bx1 P.pt), .n 6 (by0 P.pt), .n 6 (by1 P.pt), .b (bi P.pt)]) :: (sv [.n 6 (bx0 N.pt), .n 6 (bx1 N.pt), .n 6 (by0 N.pt), .n 6 (by1 N.pt), .b (bi N.pt)]) :: (.bool false) :: (.bool false) :: (.bool false) :: (.bool false) :: (.bool true) :: (.bool false) :: (.bool false) :: undef :: undef :: undef :: undef :: undef :: undef :: undef :: (.bool false) :: (.bool false) :: (.bool true) :: (.bool false) :: (.bool false) :: (.bool false) :: (.bool true) :: (.bool true) :: undef :: undef :: undef :: undef :: undef :: undef :: undef :: undef :: undef :: undef :: undef :: undef :: undef :: undef :: undef :: undef :: undef :: undef :: undef :: undef :: undef :: []), []⟩) 0 (fun _ => 0) (fun _ => 0) (fun _ => 0) (fun _ => []) (fun _ => []) [52, 53, 54, 55, 56, 57] (.inr ⟨rfl, by kernel_rfl⟩) (by kernel_rfl) rfl rfl rfl ?_ ?_)
  · refine GSteps.cons (gm_val (v := .bool true) rfl (fun _ => rfl) (fun _ => rfl) (fun γ w h => ex_move _) rfl) ?_
    refine GSteps.cons (gm_val (v := .bool false) rfl (fun _ => rfl) (fun _ => rfl) (fun γ w h => ex_not (r := true) rfl) rfl) ?_
    refine GSteps.cons (gm_val (v := .bool false) rfl (fun _ => rfl) (fun _ => rfl) (fun γ w h => ex_move _) rfl) ?_
    refine GSteps.cons (gm_val (v := .bool false) rfl (fun _ => rfl) (fun _ => rfl) (fun γ w h => ex_move _) rfl) ?_
    refine GSteps.cons (gm_val (v := .bool true) rfl (fun _ => rfl) (fun _ => rfl) (fun γ w h => ex_not (r := false) rfl) rfl) ?_
    refine GSteps.cons (gm_val (v := .bool true) rfl (fun _ => rfl) (fun _ => rfl) (fun γ w h => ex_pick (r := false) rfl) rfl) ?_
    exact GSteps.nil
  intro _ w28 hb28 _ _
  refine th_r ?_
  have A29 := A23.keep hb28.out
  have A30 := A24.keep hb28.out
  have A31 := A25.keep hb28.out
  have A32 := A26.keep hb28.out
  have HB33 := below_then HB27 hb28.out
  refine wp_cond_true rfl ?_
  refine wp_seq (region_m (F := fun _ => ⟨List.toArray ((sv [.n 6 (bx0 P.pt), .n 6 (bx1 P.pt), .n 6 (by0 P.pt), .n 6 (by1 P.pt), .b (bi P.pt)]) :: (sv [.n 6 x0, .n 6 x1, .n 6 y0, .n 6 y1, .b i]) :: (.pointer (some ⟨(γ1 0), 0, none⟩)) :: (.pointer (some ⟨(γ1 1), 0, none⟩)) :: (.bool true) :: (.pointer (some ⟨(γ5 0), 0, none⟩)) :: (.int .i64 30) :: (.pointer (some ⟨(γ10 0), 0, none⟩)) :: (.int .i64 0) :: (.bool true) :: (.bool false) :: (.tuple #[sv [.n 6 0, .n 6 0, .n 6 0, .n 6 0, .b false], .int .i64 30]) :: (sv [.n 6 (bx0 P.pt), .n 6 (bx1 P.pt), .n 6 (by0 P.pt), .n 6 (by1 P.pt), .b (bi P.pt)]) :: (sv [.n 6 x0, .n 6 x1, .n 6 y0, .n 6 y1, .b i]) :: (.tuple #[sv [.n 6 0, .n 6 0, .n 6 0, .n 6 0, .b false], .int .i64 30]) :: (sv [.n 6 0, .n 6 0, .n 6 0, .n 6 0, .b false]) :: (.int .i64 30) :: (.tuple #[sv [.n 6 (bx0 N.pt), .n 6 (bx1 N.pt), .n 6 (by0 N.pt), .n 6 (by1 N.pt), .b (bi N.pt)], .int .i64 0]) :: (sv [.n 6 (bx0 P.pt), .n 6 (bx1 P.pt), .n 6 (by0 P.pt), .n 6 (by1 P.pt), .b (bi P.pt)]) :: (.tuple #[sv [.n 6 (bx0 N.pt), .n 6 (bx1 N.pt), .n 6 (by0 N.pt), .n 6 (by1 N.pt), .b (bi N.pt)], .int .i64 0]) :: (sv [.n 6 (bx0 N.pt), .n 6 (bx1 N.pt), .n 6 (by0 N.pt), .n 6 (by1 N.pt), .b (bi N.pt)]) :: (.int .i64 0) :: (sv [.n 6 (bx0 P.pt), .n 6 (bx1 P.pt), .n 6 (by0 P.pt), .n 6 (by1 P.pt), .b (bi P.pt)]) :: (.bool true) :: (sv [.n 6 x0, .n 6 x1, .n 6 y0, .n 6 y1, .b i]) :: (.bool false) :: (.bool true) :: (.int .i64 0) :: (.bool true) :: (.bool false) :: (.bool false) :: (.bool true) :: (.bool true) :: (sv [.n 6 (bx0 N.pt), .n 6 (bx1 N.pt), .n 6 (by0 N.pt), .n 6 (by1 N.pt), .b (bi N.pt)]) :: (sv [.n 6 (bx0 P.pt), .n 6 (bx1 P.pt), .n 6 (by0 P.pt), .n 6 (by1 P.pt), .b (bi P.pt)]) :: (sv [.n 6 (bx0 N.pt), .n 6 (bx1 N.pt), .n 6 (by0 N.pt), .n 6 (by1 N.pt), .b (bi N.pt)]) :: (.bool false) :: (.bool false) :: (.bool false) :: (.bool false) :: (.bool true) :: (.bool false) :: (.bool false) :: undef :: undef :: undef :: undef :: undef :: undef :: undef :: (.bool false) :: (.bool false) :: (.bool true) :: (.bool false) :: (.bool false) :: (.bool false) :: (.bool true) :: (.bool true) :: (.bool true) :: (.bool true) :: (.int .i64 30) :: (.bool true) :: (.bool true) :: (.bool true) :: (sv [.n 6 0, .n 6 0, .n 6 0, .n 6 0, .b false]) :: (sv [.n 6 0, .n 6 0, .n 6 0, .n 6 0, .b false]) :: (.bool true) :: (.bool true) :: undef :: undef :: undef :: undef :: undef :: undef :: undef :: undef :: undef :: undef :: undef :: []), []⟩) 0 (fun _ => 0) (fun _ => 0) (fun _ => 0) (fun _ => []) (fun _ => []) [58, 59, 60, 61, 62, 63, 64, 65, 66, 67, 4] (.inr ⟨rfl, by kernel_rfl⟩) (by kernel_rfl) rfl rfl rfl ?_ ?_)
  · refine GSteps.cons (gm_call (v := .bool true) rfl (fun _ => rfl) (fun _ => rfl) (fun γ w => ex_call (vs := []) rfl Tryz.call11 rfl) (fun w h => twoalive_v _) rfl) ?_
    refine GSteps.cons (gm_val (v := .bool true) rfl (fun _ => rfl) (fun _ => rfl) (fun γ w h => ex_move _) rfl) ?_
    refine GSteps.cons (gm_val (v := .int .i64 30) rfl (fun _ => rfl) (fun _ => rfl) (fun γ w h => ex_move _) rfl) ?_
    refine GSteps.cons (gm_val (v := .bool true) rfl (fun _ => rfl) (fun _ => rfl) (fun γ w h => ex_eqi rfl rfl _ rfl) rfl) ?_
    refine GSteps.cons (gm_val (v := .bool true) rfl (fun _ => rfl) (fun _ => rfl) (fun γ w h => ex_pick (r := true) rfl) rfl) ?_
    refine GSteps.cons (gm_val (v := .bool true) rfl (fun _ => rfl) (fun _ => rfl) (fun γ w h => ex_move _) rfl) ?_
    refine GSteps.cons (gm_val (v := sv [.n 6 0, .n 6 0, .n 6 0, .n 6 0, .b false]) rfl (fun _ => rfl) (fun _ => rfl) (fun γ w h => ex_loads 0 5 (m := [.n 6 0, .n 6 0, .n 6 0, .n 6 0, .b false]) flG2 rfl rfl (A31.keep h.out) rfl rfl) rfl) ?_
    refine GSteps.cons (gm_val (v := sv [.n 6 0, .n 6 0, .n 6 0, .n 6 0, .b false]) rfl (fun _ => rfl) (fun _ => rfl) (fun γ w h => ex_builds stG2 (l := [.n 6 0, .n 6 0, .n 6 0, .n 6 0, .b false]) (vs := []) rfl rfl) rfl) ?_
    refine GSteps.cons (gm_val (v := .bool true) rfl (fun _ => rfl) (fun _ => rfl) (fun γ w h => ex_eqs gdG2 eqG2 rfl rfl rfl (shG2_of zero_B zero_B zero_B zero_B) (shG2_of zero_B zero_B zero_B zero_B) true (by simp)) rfl) ?_
    refine GSteps.cons (gm_val (v := .bool true) rfl (fun _ => rfl) (fun _ => rfl) (fun γ w h => ex_pick (r := true) rfl) rfl) ?_
    refine GSteps.cons (gm_val (v := .bool true) rfl (fun _ => rfl) (fun _ => rfl) (fun γ w h => ex_assign _) rfl) ?_
    exact GSteps.nil
  intro _ w34 hb34 _ _
  refine th_r ?_
  have A35 := A29.keep hb34.out
  have A36 := A30.keep hb34.out
  have A37 := A31.keep hb34.out
  have A38 := A32.keep hb34.out
  have HB39 := below_then HB33 hb34.out
  exact wp_ret (th_ret (bodyPost_ret (ret1 Tryz.results3 (res_tmp rfl)) rfl ⟨rfl, HB39⟩))

set_option maxRecDepth 20000 in
set_option maxHeartbeats 4000000 in
theorem twoSums_np (x0 : Nat) (x1 : Nat) (y0 : Nat) (y1 : Nat) (i : Bool) (hx0 : x0 < fpB) (hx1 : x1 < fpB) (hy0 : y0 < fpB) (hy1 : y1 < fpB) (h0 : ¬ RawOk2 x0 x1 y0 y1 i) (Q : E2) (w : World) :
    Calls Tryz.prog 3 #[sv [.n 6 x0, .n 6 x1, .n 6 y0, .n 6 y1, .b i], sv [.n 6 (bx0 Q.pt), .n 6 (bx1 Q.pt), .n 6 (by0 Q.pt), .n 6 (by1 Q.pt), .b (bi Q.pt)]] w (Is (.bool true) w) := by
  go_enter Tryz.func3, Tryz.ntmps3
  refine wp_seq (region_m (F := fun γ => ⟨List.toArray ((sv [.n 6 x0, .n 6 x1, .n 6 y0, .n 6 y1, .b i]) :: (sv [.n 6 (bx0 Q.pt), .n 6 (bx1 Q.pt), .n 6 (by0 Q.pt), .n 6 (by1 Q.pt), .b (bi Q.pt)]) :: (.pointer (some ⟨γ 0, 0, none⟩)) :: (.pointer (some ⟨γ 1, 0, none⟩)) :: (.bool false) :: undef :: undef :: undef :: undef :: undef :: undef :: undef :: undef :: undef :: undef :: undef :: undef :: undef :: undef :: undef :: undef :: undef :: undef :: undef :: undef :: undef :: undef :: undef :: undef :: undef :: undef :: undef :: undef :: undef :: undef :: undef :: undef :: undef :: undef :: undef :: undef :: undef :: undef :: undef :: undef :: undef :: undef :: undef :: undef :: undef :: undef :: undef :: undef :: undef :: undef :: undef :: undef :: undef :: undef :: undef :: undef :: undef :: undef :: undef :: undef :: undef :: undef :: undef :: undef :: undef :: undef :: undef :: undef :: undef :: undef :: undef :: undef :: undef :: undef :: []), []⟩) 2 (fun j_ => match j_ with | 0 => 28 | _ => 28) (fun j_ => match j_ with | 0 => 0 | _ => 1) (fun j_ => match j_ with | 0 => 0 | _ => 1) (fun j_ => match j_ with | 0 => segs [.n 6 x0, .n 6 x1, .n 6 y0, .n 6 y1, .b i] | _ => segs [.n 6 (bx0 Q.pt), .n 6 (bx1 Q.pt), .n 6 (by0 Q.pt), .n 6 (by1 Q.pt), .b (bi Q.pt)]) (fun j_ => match j_ with | 0 => segs [.n 6 x0, .n 6 x1, .n 6 y0, .n 6 y1, .b i] | _ => segs [.n 6 (bx0 Q.pt), .n 6 (bx1 Q.pt), .n 6 (by0 Q.pt), .n 6 (by1 Q.pt), .b (bi Q.pt)]) [2, 3, 4] (.inr ⟨rfl, by kernel_rfl⟩) (by kernel_rfl) rfl rfl rfl ?_ ?_)
  · refine GSteps.cons (gm_box 0 rfl (fun _ => rfl) (fun _ _ => rfl) (fun γ w h => ex_boxs (l := [.n 6 x0, .n 6 x1, .n 6 y0, .n 6 y1, .b i]) rfl) rfl rfl rfl) ?_
    refine GSteps.cons (gm_box 1 rfl (fun _ => rfl) (fun _ _ => rfl) (fun γ w h => ex_boxs (l := [.n 6 (bx0 Q.pt), .n 6 (bx1 Q.pt), .n 6 (by0 Q.pt), .n 6 (by1 Q.pt), .b (bi Q.pt)]) rfl) rfl rfl rfl) ?_
    refine GSteps.cons (gm_val (v := .bool false) rfl (fun _ => rfl) (fun _ => rfl) (fun γ w h => ex_assign _) rfl) ?_
    exact GSteps.nil
  intro γ1 w1 hb1 hB1 hn1
  refine th_r ?_
  have A2 : SB 28 w1 (γ1 0) [.n 6 x0, .n 6 x1, .n 6 y0, .n 6 y1, .b i] := (hB1 0 (by decide)).2
  have le2 := (hB1 0 (by decide)).1
  have A3 : SB 28 w1 (γ1 1) [.n 6 (bx0 Q.pt), .n 6 (bx1 Q.pt), .n 6 (by0 Q.pt), .n 6 (by1 Q.pt), .b (bi Q.pt)] := (hB1 1 (by decide)).2
  have le3 := (hB1 1 (by decide)).1
  have HB4 := below_then (Below.refl w.heap.size w) hb1.out
  refine wp_seq (region_m (F := fun γ => ⟨List.toArray ((sv [.n 6 x0, .n 6 x1, .n 6 y0, .n 6 y1, .b i]) :: (sv [.n 6 (bx0 Q.pt), .n 6 (bx1 Q.pt), .n 6 (by0 Q.pt), .n 6 (by1 Q.pt), .b (bi Q.pt)]) :: (.pointer (some ⟨(γ1 0), 0, none⟩)) :: (.pointer (some ⟨(γ1 1), 0, none⟩)) :: (.bool false) :: (.pointer (some ⟨γ 0, 0, none⟩)) :: (.int .i64 30) :: undef :: undef :: undef :: undef :: (.tuple #[sv [.n 6 0, .n 6 0, .n 6 0, .n 6 0, .b false], .int .i64 30]) :: (sv [.n 6 x0, .n 6 x1, .n 6 y0, .n 6 y1, .b i]) :: (sv [.n 6 (bx0 Q.pt), .n 6 (bx1 Q.pt), .n 6 (by0 Q.pt), .n 6 (by1 Q.pt), .b (bi Q.pt)]) :: (.tuple #[sv [.n 6 0, .n 6 0, .n 6 0, .n 6 0, .b false], .int .i64 30]) :: (sv [.n 6 0, .n 6 0, .n 6 0, .n 6 0, .b false]) :: (.int .i64 30) :: undef :: undef :: undef :: undef :: undef :: undef :: undef :: undef :: undef :: undef :: undef :: undef :: undef :: undef :: undef :: undef :: undef :: undef :: undef :: undef :: undef :: undef :: undef :: undef :: undef :: undef :: undef :: undef :: undef :: undef :: undef :: undef :: undef :: undef :: undef :: undef :: undef :: undef :: undef :: undef :: undef :: undef :: undef :: undef :: undef :: undef :: undef :: undef :: undef :: undef :: undef :: undef :: undef :: undef :: undef :: undef :: undef :: undef :: undef :: undef :: undef :: undef :: []), []⟩) 1 (fun _ => 28) (fun _ => 6) (fun _ => 7) (fun _ => segs [.n 6 0, .n 6 0, .n 6 0, .n 6 0, .b false]) (fun _ => segs [.n 6 0, .n 6 0, .n 6 0, .n 6 0, .b false]) [12, 13, 14, 11, 15, 16, 5, 6] (.inr ⟨rfl, by kernel_rfl⟩) (by kernel_rfl) rfl rfl rfl ?_ ?_)
  · refine GSteps.cons (gm_val (v := sv [.n 6 x0, .n 6 x1, .n 6 y0, .n 6 y1, .b i]) rfl (fun _ => rfl) (fun _ => rfl) (fun γ w h => ex_loads 0 5 (m := [.n 6 x0, .n 6 x1, .n 6 y0, .n 6 y1, .b i]) flG2 rfl rfl (A2.keep h.out) rfl rfl) rfl) ?_
    refine GSteps.cons (gm_val (v := sv [.n 6 (bx0 Q.pt), .n 6 (bx1 Q.pt), .n 6 (by0 Q.pt), .n 6 (by1 Q.pt), .b (bi Q.pt)]) rfl (fun _ => rfl) (fun _ => rfl) (fun γ w h => ex_loads 0 5 (m := [.n 6 (bx0 Q.pt), .n 6 (bx1 Q.pt), .n 6 (by0 Q.pt), .n 6 (by1 Q.pt), .b (bi Q.pt)]) flG2 rfl rfl (A3.keep h.out) rfl rfl) rfl) ?_
    refine GSteps.cons (gm_call (v := .tuple #[sv [.n 6 0, .n 6 0, .n 6 0, .n 6 0, .b false], .int .i64 30]) rfl (fun _ => rfl) (fun _ => rfl) (fun γ w => ex_call (vs := [sv [.n 6 x0, .n 6 x1, .n 6 y0, .n 6 y1, .b i], sv [.n 6 (bx0 Q.pt), .n 6 (bx1 Q.pt), .n 6 (by0 Q.pt), .n 6 (by1 Q.pt), .b (bi Q.pt)]]) rfl Tryz.call7 rfl) (fun w h => twoAdd_n1 x0 x1 y0 y1 i hx0 hx1 hy0 hy1 h0 (bx0 Q.pt) (bx1 Q.pt) (by0 Q.pt) (by1 Q.pt) (bi Q.pt) _) rfl) ?_
    refine GSteps.cons (gm_val (v := .tuple #[sv [.n 6 0, .n 6 0, .n 6 0, .n 6 0, .b false], .int .i64 30]) rfl (fun _ => rfl) (fun _ => rfl) (fun γ w h => ex_move _) rfl) ?_
    refine GSteps.cons (gm_val (v := sv [.n 6 0, .n 6 0, .n 6 0, .n 6 0, .b false]) rfl (fun _ => rfl) (fun _ => rfl) (fun γ w h => ex_extract (vs := [sv [.n 6 0, .n 6 0, .n 6 0, .n 6 0, .b false], .int .i64 30]) rfl rfl) rfl) ?_
    refine GSteps.cons (gm_val (v := .int .i64 30) rfl (fun _ => rfl) (fun _ => rfl) (fun γ w h => ex_extract (vs := [sv [.n 6 0, .n 6 0, .n 6 0, .n 6 0, .b false], .int .i64 30]) rfl rfl) rfl) ?_
    refine GSteps.cons (gm_new 0 rfl (fun _ => rfl) (fun _ _ => rfl) (fun γ w => ex_allocs (l := [.n 6 0, .n 6 0, .n 6 0, .n 6 0, .b false]) zG2) rfl (by kernel_rfl)) ?_
    refine GSteps.cons (gm_store 0 rfl rfl (fun _ => rfl) (len_segs (l := [.n 6 0, .n 6 0, .n 6 0, .n 6 0, .b false]) (l' := [.n 6 0, .n 6 0, .n 6 0, .n 6 0, .b false]) rfl) (fun γ w h => ex_stores 0 5 (l := [.n 6 0, .n 6 0, .n 6 0, .n 6 0, .b false]) (m := [.n 6 0, .n 6 0, .n 6 0, .n 6 0, .b false]) flG2.2 rfl rfl rfl rfl h rfl rfl) rfl rfl (by kernel_rfl)) ?_
    refine GSteps.cons (gm_val (v := .int .i64 30) rfl (fun _ => rfl) (fun _ => rfl) (fun γ w h => ex_assign _) rfl) ?_
    exact GSteps.nil
  intro γ5 w5 hb5 hB5 _
  refine th_r ?_
  have A6 := A2.keep hb5.out
  have A7 := A3.keep hb5.out
  have A8 : SB 28 w5 (γ5 0) [.n 6 0, .n 6 0, .n 6 0, .n 6 0, .b false] := (hB5 0 (by decide)).2
  have le8 := (hB5 0 (by decide)).1
  have HB9 := below_then HB4 hb5.out
  refine wp_seq (region_m (F := fun γ => ⟨List.toArray ((sv [.n 6 x0, .n 6 x1, .n 6 y0, .n 6 y1, .b i]) :: (sv [.n 6 (bx0 Q.pt), .n 6 (bx1 Q.pt), .n 6 (by0 Q.pt), .n 6 (by1 Q.pt), .b (bi Q.pt)]) :: (.pointer (some ⟨(γ1 0), 0, none⟩)) :: (.pointer (some ⟨(γ1 1), 0, none⟩)) :: (.bool false) :: (.pointer (some ⟨(γ5 0), 0, none⟩)) :: (.int .i64 30) :: (.pointer (some ⟨γ 0, 0, none⟩)) :: (.int .i64 30) :: undef :: undef :: (.tuple #[sv [.n 6 0, .n 6 0, .n 6 0, .n 6 0, .b false], .int .i64 30]) :: (sv [.n 6 x0, .n 6 x1, .n 6 y0, .n 6 y1, .b i]) :: (sv [.n 6 (bx0 Q.pt), .n 6 (bx1 Q.pt), .n 6 (by0 Q.pt), .n 6 (by1 Q.pt), .b (bi Q.pt)]) :: (.tuple #[sv [.n 6 0, .n 6 0, .n 6 0, .n 6 0, .b false], .int .i64 30]) :: (sv [.n 6 0, .n 6 0, .n 6 0, .n 6 0, .b false]) :: (.int .i64 30) :: (.tuple #[sv [.n 6 0, .n 6 0, .n 6 0, .n 6 0, .b false], .int .i64 30]) :: (sv [.n 6 x0, .n 6 x1, .n 6 y0, .n 6 y1, .b i]) :: (.tuple #[sv [.n 6 0, .n 6 0, .n 6 0, .n 6 0, .b false], .int .i64 30]) :: (sv [.n 6 0, .n 6 0, .n 6 0, .n 6 0, .b false]) :: (.int .i64 30) :: undef :: undef :: undef :: undef :: undef :: undef :: undef :: undef :: undef :: undef :: undef :: undef :: undef :: undef :: undef :: undef :: undef :: undef :: undef :: undef :: undef :: undef :: undef :: undef :: undef :: undef :: undef :: undef :: undef :: undef :: undef :: undef :: undef :: undef :: undef :: undef :: undef :: undef :: undef :: undef :: undef :: undef :: undef :: undef :: undef :: undef :: undef :: undef :: undef :: undef :: undef :: undef :: undef :: undef :: undef :: undef :: undef :: []), []⟩) 1 (fun _ => 28) (fun _ => 5) (fun _ => 6) (fun _ => segs [.n 6 0, .n 6 0, .n 6 0, .n 6 0, .b false]) (fun _ => segs [.n 6 0, .n 6 0, .n 6 0, .n 6 0, .b false]) [18, 19, 17, 20, 21, 7, 8] (.inr ⟨rfl, by kernel_rfl⟩) (by kernel_rfl) rfl rfl rfl ?_ ?_)
  · refine GSteps.cons (gm_val (v := sv [.n 6 x0, .n 6 x1, .n 6 y0, .n 6 y1, .b i]) rfl (fun _ => rfl) (fun _ => rfl) (fun γ w h => ex_loads 0 5 (m := [.n 6 x0, .n 6 x1, .n 6 y0, .n 6 y1, .b i]) flG2 rfl rfl (A6.keep h.out) rfl rfl) rfl) ?_
    refine GSteps.cons (gm_call (v := .tuple #[sv [.n 6 0, .n 6 0, .n 6 0, .n 6 0, .b false], .int .i64 30]) rfl (fun _ => rfl) (fun _ => rfl) (fun γ w => ex_call (vs := [sv [.n 6 x0, .n 6 x1, .n 6 y0, .n 6 y1, .b i]]) rfl Tryz.call8 rfl) (fun w h => twoNeg_n x0 x1 y0 y1 i hx0 hx1 hy0 hy1 h0 _) rfl) ?_
    refine GSteps.cons (gm_val (v := .tuple #[sv [.n 6 0, .n 6 0, .n 6 0, .n 6 0, .b false], .int .i64 30]) rfl (fun _ => rfl) (fun _ => rfl) (fun γ w h => ex_move _) rfl) ?_
    refine GSteps.cons (gm_val (v := sv [.n 6 0, .n 6 0, .n 6 0, .n 6 0, .b false]) rfl (fun _ => rfl) (fun _ => rfl) (fun γ w h => ex_extract (vs := [sv [.n 6 0, .n 6 0, .n 6 0, .n 6 0, .b false], .int .i64 30]) rfl rfl) rfl) ?_
    refine GSteps.cons (gm_val (v := .int .i64 30) rfl (fun _ => rfl) (fun _ => rfl) (fun γ w h => ex_extract (vs := [sv [.n 6 0, .n 6 0, .n 6 0, .n 6 0, .b false], .int .i64 30]) rfl rfl) rfl) ?_
    refine GSteps.cons (gm_new 0 rfl (fun _ => rfl) (fun _ _ => rfl) (fun γ w => ex_allocs (l := [.n 6 0, .n 6 0, .n 6 0, .n 6 0, .b false]) zG2) rfl (by kernel_rfl)) ?_
    refine GSteps.cons (gm_store 0 rfl rfl (fun _ => rfl) (len_segs (l := [.n 6 0, .n 6 0, .n 6 0, .n 6 0, .b false]) (l' := [.n 6 0, .n 6 0, .n 6 0, .n 6 0, .b false]) rfl) (fun γ w h => ex_stores 0 5 (l := [.n 6 0, .n 6 0, .n 6 0, .n 6 0, .b false]) (m := [.n 6 0, .n 6 0, .n 6 0, .n 6 0, .b false]) flG2.2 rfl rfl rfl rfl h rfl rfl) rfl rfl (by kernel_rfl)) ?_
    refine GSteps.cons (gm_val (v := .int .i64 30) rfl (fun _ => rfl) (fun _ => rfl) (fun γ w h => ex_assign _) rfl) ?_
    exact GSteps.nil
  intro γ10 w10 hb10 hB10 _
  refine th_r ?_
  have A11 := A6.keep hb10.out
  have A12 := A7.keep hb10.out
  have A13 := A8.keep hb10.out
  have A14 : SB 28 w10 (γ10 0) [.n 6 0, .n 6 0, .n 6 0, .n 6 0, .b false] := (hB10 0 (by decide)).2
  have le14 := (hB10 0 (by decide)).1
  have HB15 := below_then HB9 hb10.out
  refine wp_seq (region_m (F := fun _ => ⟨List.toArray ((sv [.n 6 x0, .n 6 x1, .n 6 y0, .n 6 y1, .b i]) :: (sv [.n 6 (bx0 Q.pt), .n 6 (bx1 Q.pt), .n 6 (by0 Q.pt), .n 6 (by1 Q.pt), .b (bi Q.pt)]) :: (.pointer (some ⟨(γ1 0), 0, none⟩)) :: (.pointer (some ⟨(γ1 1), 0, none⟩)) :: (.bool false) :: (.pointer (some ⟨(γ5 0), 0, none⟩)) :: (.int .i64 30) :: (.pointer (some ⟨(γ10 0), 0, none⟩)) :: (.int .i64 30) :: (.bool false) :: (.bool true) :: (.tuple #[sv [.n 6 0, .n 6 0, .n 6 0, .n 6 0, .b false], .int .i64 30]) :: (sv [.n 6 x0, .n 6 x1, .n 6 y0, .n 6 y1, .b i]) :: (sv [.n 6 (bx0 Q.pt), .n 6 (bx1 Q.pt), .n 6 (by0 Q.pt), .n 6 (by1 Q.pt), .b (bi Q.pt)]) :: (.tuple #[sv [.n 6 0, .n 6 0, .n 6 0, .n 6 0, .b false], .int .i64 30]) :: (sv [.n 6 0, .n 6 0, .n 6 0, .n 6 0, .b false]) :: (.int .i64 30) :: (.tuple #[sv [.n 6 0, .n 6 0, .n 6 0, .n 6 0, .b false], .int .i64 30]) :: (sv [.n 6 x0, .n 6 x1, .n 6 y0, .n 6 y1, .b i]) :: (.tuple #[sv [.n 6 0, .n 6 0, .n 6 0, .n 6 0, .b false], .int .i64 30]) :: (sv [.n 6 0, .n 6 0, .n 6 0, .n 6 0, .b false]) :: (.int .i64 30) :: (sv [.n 6 x0, .n 6 x1, .n 6 y0, .n 6 y1, .b i]) :: (.bool false) :: (sv [.n 6 (bx0 Q.pt), .n 6 (bx1 Q.pt), .n 6 (by0 Q.pt), .n 6 (by1 Q.pt), .b (bi Q.pt)]) :: (.bool true) :: undef :: undef :: undef :: undef :: undef :: undef :: undef :: undef :: undef :: undef :: undef :: undef :: undef :: undef :: undef :: undef :: undef :: undef :: undef :: undef :: undef :: undef :: undef :: undef :: undef :: undef :: undef :: undef :: undef :: undef :: undef :: undef :: undef :: undef :: undef :: undef :: undef :: undef :: undef :: undef :: undef :: undef :: undef :: undef :: undef :: undef :: undef :: undef :: undef :: undef :: undef :: undef :: undef :: []), []⟩) 0 (fun _ => 0) (fun _ => 0) (fun _ => 0) (fun _ => []) (fun _ => []) [22, 23, 24, 25, 9, 10] (.inl ⟨rfl, by kernel_rfl⟩) (by kernel_rfl) rfl rfl rfl ?_ ?_)
  · refine GSteps.cons (gm_val (v := sv [.n 6 x0, .n 6 x1, .n 6 y0, .n 6 y1, .b i]) rfl (fun _ => rfl) (fun _ => rfl) (fun γ w h => ex_loads 0 5 (m := [.n 6 x0, .n 6 x1, .n 6 y0, .n 6 y1, .b i]) flG2 rfl rfl (A11.keep h.out) rfl rfl) rfl) ?_
    refine GSteps.cons (gm_call (v := .bool false) rfl (fun _ => rfl) (fun _ => rfl) (fun γ w => ex_call (vs := [sv [.n 6 x0, .n 6 x1, .n 6 y0, .n 6 y1, .b i]]) rfl Tryz.call9 rfl) (fun w h => r9Right_no hx0 hx1 hy0 hy1 h0 _) rfl) ?_
    refine GSteps.cons (gm_val (v := sv [.n 6 (bx0 Q.pt), .n 6 (bx1 Q.pt), .n 6 (by0 Q.pt), .n 6 (by1 Q.pt), .b (bi Q.pt)]) rfl (fun _ => rfl) (fun _ => rfl) (fun γ w h => ex_loads 0 5 (m := [.n 6 (bx0 Q.pt), .n 6 (bx1 Q.pt), .n 6 (by0 Q.pt), .n 6 (by1 Q.pt), .b (bi Q.pt)]) flG2 rfl rfl (A12.keep h.out) rfl rfl) rfl) ?_
    refine GSteps.cons (gm_call (v := .bool true) rfl (fun _ => rfl) (fun _ => rfl) (fun γ w => ex_call (vs := [sv [.n 6 (bx0 Q.pt), .n 6 (bx1 Q.pt), .n 6 (by0 Q.pt), .n 6 (by1 Q.pt), .b (bi Q.pt)]]) rfl Tryz.call9 rfl) (fun w h => r9Right_p Q _) rfl) ?_
    refine GSteps.cons (gm_val (v := .bool false) rfl (fun _ => rfl) (fun _ => rfl) (fun γ w h => ex_assign _) rfl) ?_
    refine GSteps.cons (gm_val (v := .bool true) rfl (fun _ => rfl) (fun _ => rfl) (fun γ w h => ex_assign _) rfl) ?_
    exact GSteps.nil
  intro _ w16 hb16 _ _
  refine th_r ?_
  have A17 := A11.keep hb16.out
  have A18 := A12.keep hb16.out
  have A19 := A13.keep hb16.out
  have A20 := A14.keep hb16.out
  have HB21 := below_then HB15 hb16.out
  refine wp_seq ?_
  refine wp_seq (region_m (F := fun _ => ⟨List.toArray ((sv [.n 6 x0, .n 6 x1, .n 6 y0, .n 6 y1, .b i]) :: (sv [.n 6 (bx0 Q.pt), .n 6 (bx1 Q.pt), .n 6 (by0 Q.pt), .n 6 (by1 Q.pt), .b (bi Q.pt)]) :: (.pointer (some ⟨(γ1 0), 0, none⟩)) :: (.pointer (some ⟨(γ1 1), 0, none⟩)) :: (.bool false) :: (.pointer (some ⟨(γ5 0), 0, none⟩)) :: (.int .i64 30) :: (.pointer (some ⟨(γ10 0), 0, none⟩)) :: (.int .i64 30) :: (.bool false) :: (.bool true) :: (.tuple #[sv [.n 6 0, .n 6 0, .n 6 0, .n 6 0, .b false], .int .i64 30]) :: (sv [.n 6 x0, .n 6 x1, .n 6 y0, .n 6 y1, .b i]) :: (sv [.n 6 (bx0 Q.pt), .n 6 (bx1 Q.pt), .n 6 (by0 Q.pt), .n 6 (by1 Q.pt), .b (bi Q.pt)]) :: (.tuple #[sv [.n 6 0, .n 6 0, .n 6 0, .n 6 0, .b false], .int .i64 30]) :: (sv [.n 6 0, .n 6 0, .n 6 0, .n 6 0, .b false]) :: (.int .i64 30) :: (.tuple #[sv [.n 6 0, .n 6 0, .n 6 0, .n 6 0, .b false], .int .i64 30]) :: (sv [.n 6 x0, .n 6 x1, .n 6 y0, .n 6 y1, .b i]) :: (.tuple #[sv [.n 6 0, .n 6 0, .n 6 0, .n 6 0, .b false], .int .i64 30]) :: (sv [.n 6 0, .n 6 0, .n 6 0, .n 6 0, .b false]) :: (.int .i64 30) :: (sv [.n 6 x0, .n 6 x1, .n 6 y0, .n 6 y1, .b i]) :: (.bool false) :: (sv [.n 6 (bx0 Q.pt), .n 6 (bx1 Q.pt), .n 6 (by0 Q.pt), .n 6 (by1 Q.pt), .b (bi Q.pt)]) :: (.bool true) :: (.bool false) :: (.int .i64 30) :: (.bool false) :: (.bool false) :: (.bool false) :: (.bool false) :: (.bool false) :: undef :: undef :: undef :: undef :: (.bool false) :: (.bool false) :: (.bool false) :: (.bool false) :: (.bool true) :: (.bool true) :: (.int .i64 30) :: (.bool false) :: (.bool false) :: (sv [.n 6 0, .n 6 0, .n 6 0, .n 6 0, .b false]) :: (sv [.n 6 0, .n 6 0, .n 6 0, .n 6 0, .b false]) :: (.bool false) :: (.bool false) :: (.bool false) :: (.bool false) :: undef :: undef :: undef :: undef :: undef :: undef :: undef :: undef :: undef :: undef :: undef :: undef :: undef :: undef :: undef :: undef :: undef :: undef :: undef :: undef :: undef :: undef :: undef :: undef :: undef :: undef :: undef :: []), []⟩) 0 (fun _ => 0) (fun _ => 0) (fun _ => 0) (fun _ => []) (fun _ => []) [26, 27, 28, 29, 30, 31, 32, 33, 34, 35, 36, 37, 38, 39, 40, 41, 42, 43, 44, 45, 46, 47, 48, 49, 50, 51] (.inl ⟨rfl, by kernel_rfl⟩) (by kernel_rfl) rfl rfl rfl ?_ ?_)
  · refine GSteps.cons (gm_val (v := .bool false) rfl (fun _ => rfl) (fun _ => rfl) (fun γ w h => ex_move _) rfl) ?_
    refine GSteps.cons (gm_val (v := .int .i64 30) rfl (fun _ => rfl) (fun _ => rfl) (fun γ w h => ex_move _) rfl) ?_
    refine GSteps.cons (gm_val (v := .bool false) rfl (fun _ => rfl) (fun _ => rfl) (fun γ w h => ex_eqi rfl rfl _ rfl) rfl) ?_
    refine GSteps.cons (gm_val (v := .bool false) rfl (fun _ => rfl) (fun _ => rfl) (fun γ w h => ex_neqb (a := false) (b := false) Tryz.underlying4 rfl rfl _ rfl) rfl) ?_
    refine GSteps.cons (gm_val (v := .bool false) rfl (fun _ => rfl) (fun _ => rfl) (fun γ w h => ex_move _) rfl) ?_
    refine GSteps.cons (gm_val (v := .bool false) rfl (fun _ => rfl) (fun _ => rfl) (fun γ w h => ex_move _) rfl) ?_
    refine GSteps.cons (gm_val (v := .bool false) rfl (fun _ => rfl) (fun _ => rfl) (fun γ w h => ex_move _) rfl) ?_
    refine GSteps.cons (gm_skip rfl (fun _ => rfl) (fun _ => rfl) rfl) ?_
    refine GSteps.cons (gm_skip rfl (fun _ => rfl) (fun _ => rfl) rfl) ?_
    refine GSteps.cons (gm_skip rfl (fun _ => rfl) (fun _ => rfl) rfl) ?_
    refine GSteps.cons (gm_skip rfl (fun _ => rfl) (fun _ => rfl) rfl) ?_
    refine GSteps.cons (gm_val (v := .bool false) rfl (fun _ => rfl) (fun _ => rfl) (fun γ w h => ex_pick (r := false) rfl) rfl) ?_
    refine GSteps.cons (gm_val (v := .bool false) rfl (fun _ => rfl) (fun _ => rfl) (fun γ w h => ex_pick (r := false) rfl) rfl) ?_
    refine GSteps.cons (gm_val (v := .bool false) rfl (fun _ => rfl) (fun _ => rfl) (fun γ w h => ex_move _) rfl) ?_
    refine GSteps.cons (gm_val (v := .bool false) rfl (fun _ => rfl) (fun _ => rfl) (fun γ w h => ex_move _) rfl) ?_
    refine GSteps.cons (gm_val (v := .bool true) rfl (fun _ => rfl) (fun _ => rfl) (fun γ w h => ex_not (r := false) rfl) rfl) ?_
    refine GSteps.cons (gm_val (v := .bool true) rfl (fun _ => rfl) (fun _ => rfl) (fun γ w h => ex_move _) rfl) ?_
    refine GSteps.cons (gm_val (v := .int .i64 30) rfl (fun _ => rfl) (fun _ => rfl) (fun γ w h => ex_move _) rfl) ?_
    refine GSteps.cons (gm_val (v := .bool false) rfl (fun _ => rfl) (fun _ => rfl) (fun γ w h => ex_neqi rfl rfl _ rfl) rfl) ?_
    refine GSteps.cons (gm_val (v := .bool false) rfl (fun _ => rfl) (fun _ => rfl) (fun γ w h => ex_move _) rfl) ?_
    refine GSteps.cons (gm_val (v := sv [.n 6 0, .n 6 0, .n 6 0, .n 6 0, .b false]) rfl (fun _ => rfl) (fun _ => rfl) (fun γ w h => ex_loads 0 5 (m := [.n 6 0, .n 6 0, .n 6 0, .n 6 0, .b false]) flG2 rfl rfl (A20.keep h.out) rfl rfl) rfl) ?_
    refine GSteps.cons (gm_val (v := sv [.n 6 0, .n 6 0, .n 6 0, .n 6 0, .b false]) rfl (fun _ => rfl) (fun _ => rfl) (fun γ w h => ex_builds stG2 (l := [.n 6 0, .n 6 0, .n 6 0, .n 6 0, .b false]) (vs := []) rfl rfl) rfl) ?_
    refine GSteps.cons (gm_val (v := .bool false) rfl (fun _ => rfl) (fun _ => rfl) (fun γ w h => ex_neqs gdG2 eqG2 rfl rfl rfl (shG2_of zero_B zero_B zero_B zero_B) (shG2_of zero_B zero_B zero_B zero_B) false (by simp)) rfl) ?_
    refine GSteps.cons (gm_val (v := .bool false) rfl (fun _ => rfl) (fun _ => rfl) (fun γ w h => ex_pick (r := false) rfl) rfl) ?_
    refine GSteps.cons (gm_val (v := .bool false) rfl (fun _ => rfl) (fun _ => rfl) (fun γ w h => ex_pick (r := true) rfl) rfl) ?_
    refine GSteps.cons (gm_val (v := .bool false) rfl (fun _ => rfl) (fun _ => rfl) (fun γ w h => ex_pick (r := false) rfl) rfl) ?_
    exact GSteps.nil
  intro _ w22 hb22 _ _
  refine th_r ?_
  have A23 := A17.keep hb22.out
  have A24 := A18.keep hb22.out
  have A25 := A19.keep hb22.out
  have A26 := A20.keep hb22.out
  have HB27 := below_then HB21 hb22.out
  refine wp_cond_false rfl ?_
  refine wp_skip ?_
  refine th_r ?_
  refine wp_seq ?_
  refine wp_seq (region_m (F := fun _ => ⟨List.toArray ((sv [.n 6 x0, .n 6 x1, .n 6 y0, .n 6 y1, .b i]) :: (sv [.n 6 (bx0 Q.pt), .n 6 (bx1 Q.pt), .n 6 (by0 Q.pt), .n 6 (by1 Q.pt), .b (bi Q.pt)]) :: (.pointer (some ⟨(γ1 0), 0, none⟩)) :: (.pointer (some ⟨(γ1 1), 0, none⟩)) :: (.bool false) :: (.pointer (some ⟨(γ5 0), 0, none⟩)) :: (.int .i64 30) :: (.pointer (some ⟨(γ10 0), 0, none⟩)) :: (.int .i64 30) :: (.bool false) :: (.bool true) :: (.tuple #[sv [.n 6 0, .n 6 0, .n 6 0, .n 6 0, .b false], .int .i64 30]) :: (sv [.n 6 x0, .n 6 x1, .n 6 y0, .n 6 y1, .b i]) :: (sv [.n 6 (bx0 Q.pt), .n 6 (bx1 Q.pt), .n 6 (by0 Q.pt), .n 6 (by1 Q.pt), .b (bi Q.pt)]) :: (.tuple #[sv [.n 6 0, .n 6 0, .n 6 0, .n 6 0, .b false], .int .i64 30]) :: (sv [.n 6 0, .n 6 0, .n 6 0, .n 6 0, .b false]) :: (.int .i64 30) :: (.tuple #[sv [.n 6 0, .n 6 0, .n 6 0, .n 6 0, .b false], .int .i64 30]) :: (sv [.n 6 x0, .n 6 x1, .n 6 y0, .n 6 y1, .b i]) :: (.tuple #[sv [.n 6 0, .n 6 0, .n 6 0, .n 6 0, .b false], .int .i64 30]) :: (sv [.n 6 0, .n 6 0, .n 6 0, .n 6 0, .b false]) :: (.int .i64 30) :: (sv [.n 6 x0, .n 6 x1, .n 6 y0, .n 6 y1, .b i]) :: (.bool false) :: (sv [.n 6 (bx0 Q.pt), .n 6 (bx1 Q.pt), .n 6 (by0 Q.pt), .n 6 (by1 Q.pt), .b (bi Q.pt)]) :: (.bool true) :: (.bool false) :: (.int .i64 30) :: (.bool false) :: (.bool false) :: (.bool false) :: (.bool false) :: (.bool false) :: undef :: undef :: undef :: undef :: (.bool false) :: (.bool false) :: (.bool false) :: (.bool false) :: (.bool true) :: (.bool true) :: (.int .i64 30) :: (.bool false) :: (.bool false) :: (sv [.n 6 0, .n 6 0, .n 6 0, .n 6 0, .b false]) :: (sv [.n 6 0, .n 6 0, .n 6 0, .n 6 0, .b false]) :: (.bool false) :: (.bool false) :: (.bool false) :: (.bool false) :: (.bool false) :: (.bool true) :: (.bool true) :: undef :: undef :: (.bool true) :: undef :: undef :: undef :: undef :: undef :: undef :: undef :: undef :: undef :: undef :: undef :: undef :: undef :: undef :: undef :: undef :: undef :: undef :: undef :: undef :: undef :: []), []⟩) 0 (fun _ => 0) (fun _ => 0) (fun _ => 0) (fun _ => []) (fun _ => []) [52, 53, 54, 55, 56, 57] (.inr ⟨rfl, by kernel_rfl⟩) (by kernel_rfl) rfl rfl rfl ?_ ?_)
  · refine GSteps.cons (gm_val (v := .bool false) rfl (fun _ => rfl) (fun _ => rfl) (fun γ w h => ex_move _) rfl) ?_
    refine GSteps.cons (gm_val (v := .bool true) rfl (fun _ => rfl) (fun _ => rfl) (fun γ w h => ex_not (r := false) rfl) rfl) ?_
    refine GSteps.cons (gm_val (v := .bool true) rfl (fun _ => rfl) (fun _ => rfl) (fun γ w h => ex_move _) rfl) ?_
    refine GSteps.cons (gm_skip rfl (fun _ => rfl) (fun _ => rfl) rfl) ?_
    refine GSteps.cons (gm_skip rfl (fun _ => rfl) (fun _ => rfl) rfl) ?_
    refine GSteps.cons (gm_val (v := .bool true) rfl (fun _ => rfl) (fun _ => rfl) (fun γ w h => ex_pick (r := true) rfl) rfl) ?_
    exact GSteps.nil
  intro _ w28 hb28 _ _
  refine th_r ?_
  have A29 := A23.keep hb28.out
  have A30 := A24.keep hb28.out
  have A31 := A25.keep hb28.out
  have A32 := A26.keep hb28.out
  have HB33 := below_then HB27 hb28.out
  refine wp_cond_true rfl ?_
  refine wp_seq (region_m (F := fun _ => ⟨List.toArray ((sv [.n 6 x0, .n 6 x1, .n 6 y0, .n 6 y1, .b i]) :: (sv [.n 6 (bx0 Q.pt), .n 6 (bx1 Q.pt), .n 6 (by0 Q.pt), .n 6 (by1 Q.pt), .b (bi Q.pt)]) :: (.pointer (some ⟨(γ1 0), 0, none⟩)) :: (.pointer (some ⟨(γ1 1), 0, none⟩)) :: (.bool true) :: (.pointer (some ⟨(γ5 0), 0, none⟩)) :: (.int .i64 30) :: (.pointer (some ⟨(γ10 0), 0, none⟩)) :: (.int .i64 30) :: (.bool false) :: (.bool true) :: (.tuple #[sv [.n 6 0, .n 6 0, .n 6 0, .n 6 0, .b false], .int .i64 30]) :: (sv [.n 6 x0, .n 6 x1, .n 6 y0, .n 6 y1, .b i]) :: (sv [.n 6 (bx0 Q.pt), .n 6 (bx1 Q.pt), .n 6 (by0 Q.pt), .n 6 (by1 Q.pt), .b (bi Q.pt)]) :: (.tuple #[sv [.n 6 0, .n 6 0, .n 6 0, .n 6 0, .b false], .int .i64 30]) :: (sv [.n 6 0, .n 6 0, .n 6 0, .n 6 0, .b false]) :: (.int .i64 30) :: (.tuple #[sv [.n 6 0, .n 6 0, .n 6 0, .n 6 0, .b false], .int .i64 30]) :: (sv [.n 6 x0, .n 6 x1, .n 6 y0, .n 6 y1, .b i]) :: (.tuple #[sv [.n 6 0, .n 6 0, .n 6 0, .n 6 0, .b false], .int .i64 30]) :: (sv [.n 6 0, .n 6 0, .n 6 0, .n 6 0, .b false]) :: (.int .i64 30) :: (sv [.n 6 x0, .n 6 x1, .n 6 y0, .n 6 y1, .b i]) :: (.bool false) :: (sv [.n 6 (bx0 Q.pt), .n 6 (bx1 Q.pt), .n 6 (by0 Q.pt), .n 6 (by1 Q.pt), .b (bi Q.pt)]) :: (.bool true) :: (.bool false) :: (.int .i64 30) :: (.bool false) :: (.bool false) :: (.bool false) :: (.bool false) :: (.bool false) :: undef :: undef :: undef :: undef :: (.bool false) :: (.bool false) :: (.bool false) :: (.bool false) :: (.bool true) :: (.bool true) :: (.int .i64 30) :: (.bool false) :: (.bool false) :: (sv [.n 6 0, .n 6 0, .n 6 0, .n 6 0, .b false]) :: (sv [.n 6 0, .n 6 0, .n 6 0, .n 6 0, .b false]) :: (.bool false) :: (.bool false) :: (.bool false) :: (.bool false) :: (.bool false) :: (.bool true) :: (.bool true) :: undef :: undef :: (.bool true) :: (.bool true) :: (.bool true) :: (.int .i64 30) :: (.bool true) :: (.bool true) :: (.bool true) :: (sv [.n 6 0, .n 6 0, .n 6 0, .n 6 0, .b false]) :: (sv [.n 6 0, .n 6 0, .n 6 0, .n 6 0, .b false]) :: (.bool true) :: (.bool true) :: undef :: undef :: undef :: undef :: undef :: undef :: undef :: undef :: undef :: undef :: undef :: []), []⟩) 0 (fun _ => 0) (fun _ => 0) (fun _ => 0) (fun _ => []) (fun _ => []) [58, 59, 60, 61, 62, 63, 64, 65, 66, 67, 4] (.inr ⟨rfl, by kernel_rfl⟩) (by kernel_rfl) rfl rfl rfl ?_ ?_)
  · refine GSteps.cons (gm_call (v := .bool true) rfl (fun _ => rfl) (fun _ => rfl) (fun γ w => ex_call (vs := []) rfl Tryz.call11 rfl) (fun w h => twoalive_v _) rfl) ?_
    refine GSteps.cons (gm_val (v := .bool true) rfl (fun _ => rfl) (fun _ => rfl) (fun γ w h => ex_move _) rfl) ?_
    refine GSteps.cons (gm_val (v := .int .i64 30) rfl (fun _ => rfl) (fun _ => rfl) (fun γ w h => ex_move _) rfl) ?_
    refine GSteps.cons (gm_val (v := .bool true) rfl (fun _ => rfl) (fun _ => rfl) (fun γ w h => ex_eqi rfl rfl _ rfl) rfl) ?_
    refine GSteps.cons (gm_val (v := .bool true) rfl (fun _ => rfl) (fun _ => rfl) (fun γ w h => ex_pick (r := true) rfl) rfl) ?_
    refine GSteps.cons (gm_val (v := .bool true) rfl (fun _ => rfl) (fun _ => rfl) (fun γ w h => ex_move _) rfl) ?_
    refine GSteps.cons (gm_val (v := sv [.n 6 0, .n 6 0, .n 6 0, .n 6 0, .b false]) rfl (fun _ => rfl) (fun _ => rfl) (fun γ w h => ex_loads 0 5 (m := [.n 6 0, .n 6 0, .n 6 0, .n 6 0, .b false]) flG2 rfl rfl (A31.keep h.out) rfl rfl) rfl) ?_
    refine GSteps.cons (gm_val (v := sv [.n 6 0, .n 6 0, .n 6 0, .n 6 0, .b false]) rfl (fun _ => rfl) (fun _ => rfl) (fun γ w h => ex_builds stG2 (l := [.n 6 0, .n 6 0, .n 6 0, .n 6 0, .b false]) (vs := []) rfl rfl) rfl) ?_
    refine GSteps.cons (gm_val (v := .bool true) rfl (fun _ => rfl) (fun _ => rfl) (fun γ w h => ex_eqs gdG2 eqG2 rfl rfl rfl (shG2_of zero_B zero_B zero_B zero_B) (shG2_of zero_B zero_B zero_B zero_B) true (by simp)) rfl) ?_
    refine GSteps.cons (gm_val (v := .bool true) rfl (fun _ => rfl) (fun _ => rfl) (fun γ w h => ex_pick (r := true) rfl) rfl) ?_
    refine GSteps.cons (gm_val (v := .bool true) rfl (fun _ => rfl) (fun _ => rfl) (fun γ w h => ex_assign _) rfl) ?_
    exact GSteps.nil
  intro _ w34 hb34 _ _
  refine th_r ?_
  have A35 := A29.keep hb34.out
  have A36 := A30.keep hb34.out
  have A37 := A31.keep hb34.out
  have A38 := A32.keep hb34.out
  have HB39 := below_then HB33 hb34.out
  exact wp_ret (th_ret (bodyPost_ret (ret1 Tryz.results3 (res_tmp rfl)) rfl ⟨rfl, HB39⟩))

set_option maxRecDepth 20000 in
set_option maxHeartbeats 4000000 in
theorem twoSums_nn (x0 : Nat) (x1 : Nat) (y0 : Nat) (y1 : Nat) (i : Bool) (hx0 : x0 < fpB) (hx1 : x1 < fpB) (hy0 : y0 < fpB) (hy1 : y1 < fpB) (h0 : ¬ RawOk2 x0 x1 y0 y1 i) (x02 : Nat) (x12 : Nat) (y02 : Nat) (y12 : Nat) (i2 : Bool) (hx02 : x02 < fpB) (hx12 : x12 < fpB) (hy02 : y02 < fpB) (hy12 : y12 < fpB) (h02 : ¬ RawOk2 x02 x12 y02 y12 i2) (w : World) :
    Calls Tryz.prog 3 #[sv [.n 6 x0, .n 6 x1, .n 6 y0, .n 6 y1, .b i], sv [.n 6 x02, .n 6 x12, .n 6 y02, .n 6 y12, .b i2]] w (Is (.bool true) w) := by
  go_enter Tryz.func3, Tryz.ntmps3
  refine wp_seq (region_m (F := fun γ => ⟨List.toArray ((sv [.n 6 x0, .n 6 x1, .n 6 y0, .n 6 y1, .b i]) :: (sv [.n 6 x02, .n 6 x12, .n 6 y02, .n 6 y12, .b i2]) :: (.pointer (some ⟨γ 0, 0, none⟩)) :: (.pointer (some ⟨γ 1, 0, none⟩)) :: (.bool false) :: undef :: undef :: undef :: undef :: undef :: undef :: undef :: undef :: undef :: undef :: undef :: undef :: undef :: undef :: undef :: undef :: undef :: undef :: undef :: undef :: undef :: undef :: undef :: undef :: undef :: undef :: undef :: undef :: undef :: undef :: undef :: undef :: undef :: undef :: undef :: undef :: undef :: undef :: undef :: undef :: undef :: undef :: undef :: undef :: undef :: undef :: undef :: undef :: undef :: undef :: undef :: undef :: undef :: undef :: undef :: undef :: undef :: undef :: undef :: undef :: undef :: undef :: undef :: undef :: undef :: undef :: undef :: undef :: undef :: undef :: undef :: undef :: undef :: undef :: []), []⟩) 2 (fun j_ => match j_ with | 0 => 28 | _ => 28) (fun j_ => match j_ with | 0 => 0 | _ => 1) (fun j_ => match j_ with | 0 => 0 | _ => 1) (fun j_ => match j_ with | 0 => segs [.n 6 x0, .n 6 x1, .n 6 y0, .n 6 y1, .b i] | _ => segs [.n 6 x02, .n 6 x12, .n 6 y02, .n 6 y12, .b i2]) (fun j_ => match j_ with | 0 => segs [.n 6 x0, .n 6 x1, .n 6 y0, .n 6 y1, .b i] | _ => segs [.n 6 x02, .n 6 x12, .n 6 y02, .n 6 y12, .b i2]) [2, 3, 4] (.inr ⟨rfl, by kernel_rfl⟩) (by kernel_rfl) rfl rfl rfl ?_ ?_)
  · refine GSteps.cons (gm_box 0 rfl (fun _ => rfl) (fun _ _ => rfl) (fun γ w h => ex_boxs (l := [.n 6 x0, .n 6 x1, .n 6 y0, .n 6 y1, .b i]) rfl) rfl rfl rfl) ?_
    refine GSteps.cons (gm_box 1 rfl (fun _ => rfl) (fun _ _ => rfl) (fun γ w h => ex_boxs (l := [.n 6 x02, .n 6 x12, .n 6 y02, .n 6 y12, .b i2]) rfl) rfl rfl rfl) ?_
    refine GSteps.cons (gm_val (v := .bool false) rfl (fun _ => rfl) (fun _ => rfl) (fun γ w h => ex_assign _) rfl) ?_
    exact GSteps.nil
  intro γ1 w1 hb1 hB1 hn1
  refine th_r ?_
  have A2 : SB 28 w1 (γ1 0) [.n 6 x0, .n 6 x1, .n 6 y0, .n 6 y1, .b i] := (hB1 0 (by decide)).2
  have le2 := (hB1 0 (by decide)).1
  have A3 : SB 28 w1 (γ1 1) [.n 6 x02, .n 6 x12, .n 6 y02, .n 6 y12, .b i2] := (hB1 1 (by decide)).2
  have le3 := (hB1 1 (by decide)).1
  have HB4 := below_then (Below.refl w.heap.size w) hb1.out
  refine wp_seq (region_m (F := fun γ => ⟨List.toArray ((sv [.n 6 x0, .n 6 x1, .n 6 y0, .n 6 y1, .b i]) :: (sv [.n 6 x02, .n 6 x12, .n 6 y02, .n 6 y12, .b i2]) :: (.pointer (some ⟨(γ1 0), 0, none⟩)) :: (.pointer (some ⟨(γ1 1), 0, none⟩)) :: (.bool false) :: (.pointer (some ⟨γ 0, 0, none⟩)) :: (.int .i64 30) :: undef :: undef :: undef :: undef :: (.tuple #[sv [.n 6 0, .n 6 0, .n 6 0, .n 6 0, .b false], .int .i64 30]) :: (sv [.n 6 x0, .n 6 x1, .n 6 y0, .n 6 y1, .b i]) :: (sv [.n 6 x02, .n 6 x12, .n 6 y02, .n 6 y12, .b i2]) :: (.tuple #[sv [.n 6 0, .n 6 0, .n 6 0, .n 6 0, .b false], .int .i64 30]) :: (sv [.n 6 0, .n 6 0, .n 6 0, .n 6 0, .b false]) :: (.int .i64 30) :: undef :: undef :: undef :: undef :: undef :: undef :: undef :: undef :: undef :: undef :: undef :: undef :: undef :: undef :: undef :: undef :: undef :: undef :: undef :: undef :: undef :: undef :: undef :: undef :: undef :: undef :: undef :: undef :: undef :: undef :: undef :: undef :: undef :: undef :: undef :: undef :: undef :: undef :: undef :: undef :: undef :: undef :: undef :: undef :: undef :: undef :: undef :: undef :: undef :: undef :: undef :: undef :: undef :: undef :: undef :: undef :: undef :: undef :: undef :: undef :: undef :: undef :: []), []⟩) 1 (fun _ => 28) (fun _ => 6) (fun _ => 7) (fun _ => segs [.n 6 0, .n 6 0, .n 6 0, .n 6 0, .b false]) (fun _ => segs [.n 6 0, .n 6 0, .n 6 0, .n 6 0, .b false]) [12, 13, 14, 11, 15, 16, 5, 6] (.inr ⟨rfl, by kernel_rfl⟩) (by kernel_rfl) rfl rfl rfl ?_ ?_)
  · refine GSteps.cons (gm_val (v := sv [.n 6 x0, .n 6 x1, .n 6 y0, .n 6 y1, .b i]) rfl (fun _ => rfl) (fun _ => rfl) (fun γ w h => ex_loads 0 5 (m := [.n 6 x0, .n 6 x1, .n 6 y0, .n 6 y1, .b i]) flG2 rfl rfl (A2.keep h.out) rfl rfl) rfl) ?_
    refine GSteps.cons (gm_val (v := sv [.n 6 x02, .n 6 x12, .n 6 y02, .n 6 y12, .b i2]) rfl (fun _ => rfl) (fun _ => rfl) (fun γ w h => ex_loads 0 5 (m := [.n 6 x02, .n 6 x12, .n 6 y02, .n 6 y12, .b i2]) flG2 rfl rfl (A3.keep h.out) rfl rfl) rfl) ?_
    refine GSteps.cons (gm_call (v := .tuple #[sv [.n 6 0, .n 6 0, .n 6 0, .n 6 0, .b false], .int .i64 30]) rfl (fun _ => rfl) (fun _ => rfl) (fun γ w => ex_call (vs := [sv [.n 6 x0, .n 6 x1, .n 6 y0, .n 6 y1, .b i], sv [.n 6 x02, .n 6 x12, .n 6 y02, .n 6 y12, .b i2]]) rfl Tryz.call7 rfl) (fun w h => twoAdd_n1 x0 x1 y0 y1 i hx0 hx1 hy0 hy1 h0 x02 x12 y02 y12 i2 _) rfl) ?_
    refine GSteps.cons (gm_val (v := .tuple #[sv [.n 6 0, .n 6 0, .n 6 0, .n 6 0, .b false], .int .i64 30]) rfl (fun _ => rfl) (fun _ => rfl) (fun γ w h => ex_move _) rfl) ?_
    refine GSteps.cons (gm_val (v := sv [.n 6 0, .n 6 0, .n 6 0, .n 6 0, .b false]) rfl (fun _ => rfl) (fun _ => rfl) (fun γ w h => ex_extract (vs := [sv [.n 6 0, .n 6 0, .n 6 0, .n 6 0, .b false], .int .i64 30]) rfl rfl) rfl) ?_
    refine GSteps.cons (gm_val (v := .int .i64 30) rfl (fun _ => rfl) (fun _ => rfl) (fun γ w h => ex_extract (vs := [sv [.n 6 0, .n 6 0, .n 6 0, .n 6 0, .b false], .int .i64 30]) rfl rfl) rfl) ?_
    refine GSteps.cons (gm_new 0 rfl (fun _ => rfl) (fun _ _ => rfl) (fun γ w => ex_allocs (l := [.n 6 0, .n 6 0, .n 6 0, .n 6 0, .b false]) zG2) rfl (by kernel_rfl)) ?_
    refine GSteps.cons (gm_store 0 rfl rfl (fun _ => rfl) (len_segs (l := [.n 6 0, .n 6 0, .n 6 0, .n 6 0, .b false]) (l' := [.n 6 0, .n 6 0, .n 6 0, .n 6 0, .b false]) rfl) (fun γ w h => ex_stores 0 5 (l := [.n 6 0, .n 6 0, .n 6 0, .n 6 0, .b false]) (m := [.n 6 0, .n 6 0, .n 6 0, .n 6 0, .b false]) flG2.2 rfl rfl rfl rfl h rfl rfl) rfl rfl (by kernel_rfl)) ?_
    refine GSteps.cons (gm_val (v := .int .i64 30) rfl (fun _ => rfl) (fun _ => rfl) (fun γ w h => ex_assign _) rfl) ?_
    exact GSteps.nil
  intro γ5 w5 hb5 hB5 _
  refine th_r ?_
  have A6 := A2.keep hb5.out
  have A7 := A3.keep hb5.out
  have A8 : SB 28 w5 (γ5 0) [.n 6 0, .n 6 0, .n 6 0, .n 6 0, .b false] := (hB5 0 (by decide)).2
  have le8 := (hB5 0 (by decide)).1
  have HB9 := below_then HB4 hb5.out
  refine wp_seq (region_m (F := fun γ => ⟨List.toArray ((sv [.n 6 x0, .n 6 x1, .n 6 y0, .n 6 y1, .b i]) :: (sv [.n 6 x02, .n 6 x12, .n 6 y02, .n 6 y12, .b i2]) :: (.pointer (some ⟨(γ1 0), 0, none⟩)) :: (.pointer (some ⟨(γ1 1), 0, none⟩)) :: (.bool false) :: (.pointer (some ⟨(γ5 0), 0, none⟩)) :: (.int .i64 30) :: (.pointer (some ⟨γ 0, 0, none⟩)) :: (.int .i64 30) :: undef :: undef :: (.tuple #[sv [.n 6 0, .n 6 0, .n 6 0, .n 6 0, .b false], .int .i64 30]) :: (sv [.n 6 x0, .n 6 x1, .n 6 y0, .n 6 y1, .b i]) :: (sv [.n 6 x02, .n 6 x12, .n 6 y02, .n 6 y12, .b i2]) :: (.tuple #[sv [.n 6 0, .n 6 0, .n 6 0, .n 6 0, .b false], .int .i64 30]) :: (sv [.n 6 0, .n 6 0, .n 6 0, .n 6 0, .b false]) :: (.int .i64 30) :: (.tuple #[sv [.n 6 0, .n 6 0, .n 6 0, .n 6 0, .b false], .int .i64 30]) :: (sv [.n 6 x0, .n 6 x1, .n 6 y0, .n 6 y1, .b i]) :: (.tuple #[sv [.n 6 0, .n 6 0, .n 6 0, .n 6 0, .b false], .int .i64 30]) :: (sv [.n 6 0, .n 6 0, .n 6 0, .n 6 0, .b false]) :: (.int .i64 30) :: undef :: undef :: undef :: undef :: undef :: undef :: undef :: undef :: undef :: undef :: undef :: undef :: undef :: undef :: undef :: undef :: undef :: undef :: undef :: undef :: undef :: undef :: undef :: undef :: undef :: undef :: undef :: undef :: undef :: undef :: undef :: undef :: undef :: undef :: undef :: undef :: undef :: undef :: undef :: undef :: undef :: undef :: undef :: undef :: undef :: undef :: undef :: undef :: undef :: undef :: undef :: undef :: undef :: undef :: undef :: undef :: undef :: []), []⟩) 1 (fun _ => 28) (fun _ => 5) (fun _ => 6) (fun _ => segs [.n 6 0, .n 6 0, .n 6 0, .n 6 0, .b false]) (fun _ => segs [.n 6 0, .n 6 0, .n 6 0, .n 6 0, .b false]) [18, 19, 17, 20, 21, 7, 8] (.inr ⟨rfl, by kernel_rfl⟩) (by kernel_rfl) rfl rfl rfl ?_ ?_)
  · refine GSteps.cons (gm_val (v := sv [.n 6 x0, .n 6 x1, .n 6 y0, .n 6 y1, .b i]) rfl (fun _ => rfl) (fun _ => rfl) (fun γ w h => ex_loads 0 5 (m := [.n 6 x0, .n 6 x1, .n 6 y0, .n 6 y1, .b i]) flG2 rfl rfl (A6.keep h.out) rfl rfl) rfl) ?_
    refine GSteps.cons (gm_call (v := .tuple #[sv [.n 6 0, .n 6 0, .n 6 0, .n 6 0, .b false], .int .i64 30]) rfl (fun _ => rfl) (fun _ => rfl) (fun γ w => ex_call (vs := [sv [.n 6 x0, .n 6 x1, .n 6 y0, .n 6 y1, .b i]]) rfl Tryz.call8 rfl) (fun w h => twoNeg_n x0 x1 y0 y1 i hx0 hx1 hy0 hy1 h0 _) rfl) ?_
    refine GSteps.cons (gm_val (v := .tuple #[sv [.n 6 0, .n 6 0, .n 6 0, .n 6 0, .b false], .int .i64 30]) rfl (fun _ => rfl) (fun _ => rfl) (fun γ w h => ex_move _) rfl) ?_
    refine GSteps.cons (gm_val (v := sv [.n 6 0, .n 6 0, .n 6 0, .n 6 0, .b false]) rfl (fun _ => rfl) (fun _ => rfl) (fun γ w h => ex_extract (vs := [sv [.n 6 0, .n 6 0, .n 6 0, .n 6 0, .b false], .int .i64 30]) rfl rfl) rfl) ?_
    refine GSteps.cons (gm_val (v := .int .i64 30) rfl (fun _ => rfl) (fun _ => rfl) (fun γ w h => ex_extract (vs := [sv [.n 6 0, .n 6 0, .n 6 0, .n 6 0, .b false], .int .i64 30]) rfl rfl) rfl) ?_
    refine GSteps.cons (gm_new 0 rfl (fun _ => rfl) (fun _ _ => rfl) (fun γ w => ex_allocs (l := [.n 6 0, .n 6 0, .n 6 0, .n 6 0, .b false]) zG2) rfl (by kernel_rfl)) ?_
    refine GSteps.cons (gm_store 0 rfl rfl (fun _ => rfl) (len_segs (l := [.n 6 0, .n 6 0, .n 6 0, .n 6 0, .b false]) (l' := [.n 6 0, .n 6 0, .n 6 0, .n 6 0, .b false]) rfl) (fun γ w h => ex_stores 0 5 (l := [.n 6 0, .n 6 0, .n 6 0, .n 6 0, .b false]) (m := [.n 6 0, .n 6 0, .n 6 0, .n 6 0, .b false]) flG2.2 rfl rfl rfl rfl h rfl rfl) rfl rfl (by kernel_rfl)) ?_
    refine GSteps.cons (gm_val (v := .int .i64 30) rfl (fun _ => rfl) (fun _ => rfl) (fun γ w h => ex_assign _) rfl) ?_
    exact GSteps.nil
  intro γ10 w10 hb10 hB10 _
  refine th_r ?_
  have A11 := A6.keep hb10.out
  have A12 := A7.keep hb10.out
  have A13 := A8.keep hb10.out
  have A14 : SB 28 w10 (γ10 0) [.n 6 0, .n 6 0, .n 6 0, .n 6 0, .b false] := (hB10 0 (by decide)).2
  have le14 := (hB10 0 (by decide)).1
  have HB15 := below_then HB9 hb10.out
  refine wp_seq (region_m (F := fun _ => ⟨List.toArray ((sv [.n 6 x0, .n 6 x1, .n 6 y0, .n 6 y1, .b i]) :: (sv [.n 6 x02, .n 6 x12, .n 6 y02, .n 6 y12, .b i2]) :: (.pointer (some ⟨(γ1 0), 0, none⟩)) :: (.pointer (some ⟨(γ1 1), 0, none⟩)) :: (.bool false) :: (.pointer (some ⟨(γ5 0), 0, none⟩)) :: (.int .i64 30) :: (.pointer (some ⟨(γ10 0), 0, none⟩)) :: (.int .i64 30) :: (.bool false) :: (.bool false) :: (.tuple #[sv [.n 6 0, .n 6 0, .n 6 0, .n 6 0, .b false], .int .i64 30]) :: (sv [.n 6 x0, .n 6 x1, .n 6 y0, .n 6 y1, .b i]) :: (sv [.n 6 x02, .n 6 x12, .n 6 y02, .n 6 y12, .b i2]) :: (.tuple #[sv [.n 6 0, .n 6 0, .n 6 0, .n 6 0, .b false], .int .i64 30]) :: (sv [.n 6 0, .n 6 0, .n 6 0, .n 6 0, .b false]) :: (.int .i64 30) :: (.tuple #[sv [.n 6 0, .n 6 0, .n 6 0, .n 6 0, .b false], .int .i64 30]) :: (sv [.n 6 x0, .n 6 x1, .n 6 y0, .n 6 y1, .b i]) :: (.tuple #[sv [.n 6 0, .n 6 0, .n 6 0, .n 6 0, .b false], .int .i64 30]) :: (sv [.n 6 0, .n 6 0, .n 6 0, .n 6 0, .b false]) :: (.int .i64 30) :: (sv [.n 6 x0, .n 6 x1, .n 6 y0, .n 6 y1, .b i]) :: (.bool false) :: (sv [.n 6 x02, .n 6 x12, .n 6 y02, .n 6 y12, .b i2]) :: (.bool false) :: undef :: undef :: undef :: undef :: undef :: undef :: undef :: undef :: undef :: undef :: undef :: undef :: undef :: undef :: undef :: undef :: undef :: undef :: undef :: undef :: undef :: undef :: undef :: undef :: undef :: undef :: undef :: undef :: undef :: undef :: undef :: undef :: undef :: undef :: undef :: undef :: undef :: undef :: undef :: undef :: undef :: undef :: undef :: undef :: undef :: undef :: undef :: undef :: undef :: undef :: undef :: undef :: undef :: []), []⟩) 0 (fun _ => 0) (fun _ => 0) (fun _ => 0) (fun _ => []) (fun _ => []) [22, 23, 24, 25, 9, 10] (.inl ⟨rfl, by kernel_rfl⟩) (by kernel_rfl) rfl rfl rfl ?_ ?_)
  · refine GSteps.cons (gm_val (v := sv [.n 6 x0, .n 6 x1, .n 6 y0, .n 6 y1, .b i]) rfl (fun _ => rfl) (fun _ => rfl) (fun γ w h => ex_loads 0 5 (m := [.n 6 x0, .n 6 x1, .n 6 y0, .n 6 y1, .b i]) flG2 rfl rfl (A11.keep h.out) rfl rfl) rfl) ?_
    refine GSteps.cons (gm_call (v := .bool false) rfl (fun _ => rfl) (fun _ => rfl) (fun γ w => ex_call (vs := [sv [.n 6 x0, .n 6 x1, .n 6 y0, .n 6 y1, .b i]]) rfl Tryz.call9 rfl) (fun w h => r9Right_no hx0 hx1 hy0 hy1 h0 _) rfl) ?_
    refine GSteps.cons (gm_val (v := sv [.n 6 x02, .n 6 x12, .n 6 y02, .n 6 y12, .b i2]) rfl (fun _ => rfl) (fun _ => rfl) (fun γ w h => ex_loads 0 5 (m := [.n 6 x02, .n 6 x12, .n 6 y02, .n 6 y12, .b i2]) flG2 rfl rfl (A12.keep h.out) rfl rfl) rfl) ?_
    refine GSteps.cons (gm_call (v := .bool false) rfl (fun _ => rfl) (fun _ => rfl) (fun γ w => ex_call (vs := [sv [.n 6 x02, .n 6 x12, .n 6 y02, .n 6 y12, .b i2]]) rfl Tryz.call9 rfl) (fun w h => r9Right_no hx02 hx12 hy02 hy12 h02 _) rfl) ?_
    refine GSteps.cons (gm_val (v := .bool false) rfl (fun _ => rfl) (fun _ => rfl) (fun γ w h => ex_assign _) rfl) ?_
    refine GSteps.cons (gm_val (v := .bool false) rfl (fun _ => rfl) (fun _ => rfl) (fun γ w h => ex_assign _) rfl) ?_
    exact GSteps.nil
  intro _ w16 hb16 _ _
  refine th_r ?_
  have A17 := A11.keep hb16.out
  have A18 := A12.keep hb16.out
  have A19 := A13.keep hb16.out
  have A20 := A14.keep hb16.out
  have HB21 := below_then HB15 hb16.out
  refine wp_seq ?_
  refine wp_seq (region_m (F := fun _ => ⟨List.toArray ((sv [.n 6 x0, .n 6 x1, .n 6 y0, .n 6 y1, .b i]) :: (sv [.n 6 x02, .n 6 x12, .n 6 y02, .n 6 y12, .b i2]) :: (.pointer (some ⟨(γ1 0), 0, none⟩)) :: (.pointer (some ⟨(γ1 1), 0, none⟩)) :: (.bool false) :: (.pointer (some ⟨(γ5 0), 0, none⟩)) :: (.int .i64 30) :: (.pointer (some ⟨(γ10 0), 0, none⟩)) :: (.int .i64 30) :: (.bool false) :: (.bool false) :: (.tuple #[sv [.n 6 0, .n 6 0, .n 6 0, .n 6 0, .b false], .int .i64 30]) :: (sv [.n 6 x0, .n 6 x1, .n 6 y0, .n 6 y1, .b i]) :: (sv [.n 6 x02, .n 6 x12, .n 6 y02, .n 6 y12, .b i2]) :: (.tuple #[sv [.n 6 0, .n 6 0, .n 6 0, .n 6 0, .b false], .int .i64 30]) :: (sv [.n 6 0, .n 6 0, .n 6 0, .n 6 0, .b false]) :: (.int .i64 30) :: (.tuple #[sv [.n 6 0, .n 6 0, .n 6 0, .n 6 0, .b false], .int .i64 30]) :: (sv [.n 6 x0, .n 6 x1, .n 6 y0, .n 6 y1, .b i]) :: (.tuple #[sv [.n 6 0, .n 6 0, .n 6 0, .n 6 0, .b false], .int .i64 30]) :: (sv [.n 6 0, .n 6 0, .n 6 0, .n 6 0, .b false]) :: (.int .i64 30) :: (sv [.n 6 x0, .n 6 x1, .n 6 y0, .n 6 y1, .b i]) :: (.bool false) :: (sv [.n 6 x02, .n 6 x12, .n 6 y02, .n 6 y12, .b i2]) :: (.bool false) :: (.bool false) :: (.int .i64 30) :: (.bool false) :: (.bool false) :: (.bool false) :: (.bool false) :: (.bool false) :: undef :: undef :: undef :: undef :: (.bool false) :: (.bool false) :: (.bool false) :: (.bool false) :: (.bool true) :: (.bool true) :: (.int .i64 30) :: (.bool false) :: (.bool false) :: (sv [.n 6 0, .n 6 0, .n 6 0, .n 6 0, .b false]) :: (sv [.n 6 0, .n 6 0, .n 6 0, .n 6 0, .b false]) :: (.bool false) :: (.bool false) :: (.bool false) :: (.bool false) :: undef :: undef :: undef :: undef :: undef :: undef :: undef :: undef :: undef :: undef :: undef :: undef :: undef :: undef :: undef :: undef :: undef :: undef :: undef :: undef :: undef :: undef :: undef :: undef :: undef :: undef :: undef :: []), []⟩) 0 (fun _ => 0) (fun _ => 0) (fun _ => 0) (fun _ => []) (fun _ => []) [26, 27, 28, 29, 30, 31, 32, 33, 34, 35, 36, 37, 38, 39, 40, 41, 42, 43, 44, 45, 46, 47, 48, 49, 50, 51] (.inl ⟨rfl, by kernel_rfl⟩) (by kernel_rfl) rfl rfl rfl ?_ ?_)
  · refine GSteps.cons (gm_val (v := .bool false) rfl (fun _ => rfl) (fun _ => rfl) (fun γ w h => ex_move _) rfl) ?_
    refine GSteps.cons (gm_val (v := .int .i64 30) rfl (fun _ => rfl) (fun _ => rfl) (fun γ w h => ex_move _) rfl) ?_
    refine GSteps.cons (gm_val (v := .bool false) rfl (fun _ => rfl) (fun _ => rfl) (fun γ w h => ex_eqi rfl rfl _ rfl) rfl) ?_
    refine GSteps.cons (gm_val (v := .bool false) rfl (fun _ => rfl) (fun _ => rfl) (fun γ w h => ex_neqb (a := false) (b := false) Tryz.underlying4 rfl rfl _ rfl) rfl) ?_
    refine GSteps.cons (gm_val (v := .bool false) rfl (fun _ => rfl) (fun _ => rfl) (fun γ w h => ex_move _) rfl) ?_
    refine GSteps.cons (gm_val (v := .bool false) rfl (fun _ => rfl) (fun _ => rfl) (fun γ w h => ex_move _) rfl) ?_
    refine GSteps.cons (gm_val (v := .bool false) rfl (fun _ => rfl) (fun _ => rfl) (fun γ w h => ex_move _) rfl) ?_
    refine GSteps.cons (gm_skip rfl (fun _ => rfl) (fun _ => rfl) rfl) ?_
    refine GSteps.cons (gm_skip rfl (fun _ => rfl) (fun _ => rfl) rfl) ?_
    refine GSteps.cons (gm_skip rfl (fun _ => rfl) (fun _ => rfl) rfl) ?_
    refine GSteps.cons (gm_skip rfl (fun _ => rfl) (fun _ => rfl) rfl) ?_
    refine GSteps.cons (gm_val (v := .bool false) rfl (fun _ => rfl) (fun _ => rfl) (fun γ w h => ex_pick (r := false) rfl) rfl) ?_
    refine GSteps.cons (gm_val (v := .bool false) rfl (fun _ => rfl) (fun _ => rfl) (fun γ w h => ex_pick (r := false) rfl) rfl) ?_
    refine GSteps.cons (gm_val (v := .bool false) rfl (fun _ => rfl) (fun _ => rfl) (fun γ w h => ex_move _) rfl) ?_
    refine GSteps.cons (gm_val (v := .bool false) rfl (fun _ => rfl) (fun _ => rfl) (fun γ w h => ex_move _) rfl) ?_
    refine GSteps.cons (gm_val (v := .bool true) rfl (fun _ => rfl) (fun _ => rfl) (fun γ w h => ex_not (r := false) rfl) rfl) ?_
    refine GSteps.cons (gm_val (v := .bool true) rfl (fun _ => rfl) (fun _ => rfl) (fun γ w h => ex_move _) rfl) ?_
    refine GSteps.cons (gm_val (v := .int .i64 30) rfl (fun _ => rfl) (fun _ => rfl) (fun γ w h => ex_move _) rfl) ?_
    refine GSteps.cons (gm_val (v := .bool false) rfl (fun _ => rfl) (fun _ => rfl) (fun γ w h => ex_neqi rfl rfl _ rfl) rfl) ?_
    refine GSteps.cons (gm_val (v := .bool false) rfl (fun _ => rfl) (fun _ => rfl) (fun γ w h => ex_move _) rfl) ?_
    refine GSteps.cons (gm_val (v := sv [.n 6 0, .n 6 0, .n 6 0, .n 6 0, .b false]) rfl (fun _ => rfl) (fun _ => rfl) (fun γ w h => ex_loads 0 5 (m := [.n 6 0, .n 6 0, .n 6 0, .n 6 0, .b false]) flG2 rfl rfl (A20.keep h.out) rfl rfl) rfl) ?_
    refine GSteps.cons (gm_val (v := sv [.n 6 0, .n 6 0, .n 6 0, .n 6 0, .b false]) rfl (fun _ => rfl) (fun _ => rfl) (fun γ w h => ex_builds stG2 (l := [.n 6 0, .n 6 0, .n 6 0, .n 6 0, .b false]) (vs := []) rfl rfl) rfl) ?_
    refine GSteps.cons (gm_val (v := .bool false) rfl (fun _ => rfl) (fun _ => rfl) (fun γ w h => ex_neqs gdG2 eqG2 rfl rfl rfl (shG2_of zero_B zero_B zero_B zero_B) (shG2_of zero_B zero_B zero_B zero_B) false (by simp)) rfl) ?_
    refine GSteps.cons (gm_val (v := .bool false) rfl (fun _ => rfl) (fun _ => rfl) (fun γ w h => ex_pick (r := false) rfl) rfl) ?_
    refine GSteps.cons (gm_val (v := .bool false) rfl (fun _ => rfl) (fun _ => rfl) (fun γ w h => ex_pick (r := true) rfl) rfl) ?_
    refine GSteps.cons (gm_val (v := .bool false) rfl (fun _ => rfl) (fun _ => rfl) (fun γ w h => ex_pick (r := false) rfl) rfl) ?_
    exact GSteps.nil
  intro _ w22 hb22 _ _
  refine th_r ?_
  have A23 := A17.keep hb22.out
  have A24 := A18.keep hb22.out
  have A25 := A19.keep hb22.out
  have A26 := A20.keep hb22.out
  have HB27 := below_then HB21 hb22.out
  refine wp_cond_false rfl ?_
  refine wp_skip ?_
  refine th_r ?_
  refine wp_seq ?_
  refine wp_seq (region_m (F := fun _ => ⟨List.toArray ((sv [.n 6 x0, .n 6 x1, .n 6 y0, .n 6 y1, .b i]) :: (sv [.n 6 x02, .n 6 x12, .n 6 y02, .n 6 y12, .b i2]) :: (.pointer (some ⟨(γ1 0), 0, none⟩)) :: (.pointer (some ⟨(γ1 1), 0, none⟩)) :: (.bool false) :: (.pointer (some ⟨(γ5 0), 0, none⟩)) :: (.int .i64 30) :: (.pointer (some ⟨(γ10 0), 0, none⟩)) :: (.int .i64 30) :: (.bool false) :: (.bool false) :: (.tuple #[sv [.n 6 0, .n 6 0, .n 6 0, .n 6 0, .b false], .int .i64 30]) :: (sv [.n 6 x0, .n 6 x1, .n 6 y0, .n 6 y1, .b i]) :: (sv [.n 6 x02, .n 6 x12, .n 6 y02, .n 6 y12, .b i2]) :: (.tuple #[sv [.n 6 0, .n 6 0, .n 6 0, .n 6 0, .b false], .int .i64 30]) :: (sv [.n 6 0, .n 6 0, .n 6 0, .n 6 0, .b false]) :: (.int .i64 30) :: (.tuple #[sv [.n 6 0, .n 6 0, .n 6 0, .n 6 0, .b false], .int .i64 30]) :: (sv [.n 6 x0, .n 6 x1, .n 6 y0, .n 6 y1, .b i]) :: (.tuple #[sv [.n 6 0, .n 6 0, .n 6 0, .n 6 0, .b false], .int .i64 30]) :: (sv [.n 6 0, .n 6 0, .n 6 0, .n 6 0, .b false]) :: (.int .i64 30) :: (sv [.n 6 x0, .n 6 x1, .n 6 y0, .n 6 y1, .b i]) :: (.bool false) :: (sv [.n 6 x02, .n 6 x12, .n 6 y02, .n 6 y12, .b i2]) :: (.bool false) :: (.bool false) :: (.int .i64 30) :: (.bool false) :: (.bool false) :: (.bool false) :: (.bool false) :: (.bool false) :: undef :: undef :: undef :: undef :: (.bool false) :: (.bool false) :: (.bool false) :: (.bool false) :: (.bool true) :: (.bool true) :: (.int .i64 30) :: (.bool false) :: (.bool false) :: (sv [.n 6 0, .n 6 0, .n 6 0, .n 6 0, .b false]) :: (sv [.n 6 0, .n 6 0, .n 6 0, .n 6 0, .b false]) :: (.bool false) :: (.bool false) :: (.bool false) :: (.bool false) :: (.bool false) :: (.bool true) :: (.bool true) :: undef :: undef :: (.bool true) :: undef :: undef :: undef :: undef :: undef :: undef :: undef :: undef :: undef :: undef :: undef :: undef :: undef :: undef :: undef :: undef :: undef :: undef :: undef :: undef :: undef :: []), []⟩) 0 (fun _ => 0) (fun _ => 0) (fun _ => 0) (fun _ => []) (fun _ => []) [52, 53, 54, 55, 56, 57] (.inr ⟨rfl, by kernel_rfl⟩) (by kernel_rfl) rfl rfl rfl ?_ ?_)
  · refine GSteps.cons (gm_val (v := .bool false) rfl (fun _ => rfl) (fun _ => rfl) (fun γ w h => ex_move _) rfl) ?_
    refine GSteps.cons (gm_val (v := .bool true) rfl (fun _ => rfl) (fun _ => rfl) (fun γ w h => ex_not (r := false) rfl) rfl) ?_
    refine GSteps.cons (gm_val (v := .bool true) rfl (fun _ => rfl) (fun _ => rfl) (fun γ w h => ex_move _) rfl) ?_
    refine GSteps.cons (gm_skip rfl (fun _ => rfl) (fun _ => rfl) rfl) ?_
    refine GSteps.cons (gm_skip rfl (fun _ => rfl) (fun _ => rfl) rfl) ?_
    refine GSteps.cons (gm_val (v := .bool true) rfl (fun _ => rfl) (fun _ => rfl) (fun γ w h => ex_pick (r := true) rfl) rfl) ?_
    exact GSteps.nil
  intro _ w28 hb28 _ _
  refine th_r ?_
  have A29 := A23.keep hb28.out
  have A30 := A24.keep hb28.out
  have A31 := A25.keep hb28.out
  have A32 := A26.keep hb28.out
  have HB33 := below_then HB27 hb28.out
  refine wp_cond_true rfl ?_
  refine wp_seq (region_m (F := fun _ => ⟨List.toArray ((sv [.n 6 x0, .n 6 x1, .n 6 y0, .n 6 y1, .b i]) :: (sv [.n 6 x02, .n 6 x12, .n 6 y02, .n 6 y12, .b i2]) :: (.pointer (some ⟨(γ1 0), 0, none⟩)) :: (.pointer (some ⟨(γ1 1), 0, none⟩)) :: (.bool true) :: (.pointer (some ⟨(γ5 0), 0, none⟩)) :: (.int .i64 30) :: (.pointer (some ⟨(γ10 0), 0, none⟩)) :: (.int .i64 30) :: (.bool false) :: (.bool false) :: (.tuple #[sv [.n 6 0, .n 6 0, .n 6 0, .n 6 0, .b false], .int .i64 30]) :: (sv [.n 6 x0, .n 6 x1, .n 6 y0, .n 6 y1, .b i]) :: (sv [.n 6 x02, .n 6 x12, .n 6 y02, .n 6 y12, .b i2]) :: (.tuple #[sv [.n 6 0, .n 6 0, .n 6 0, .n 6 0, .b false], .int .i64 30]) :: (sv [.n 6 0, .n 6 0, .n 6 0, .n 6 0, .b false]) :: (.int .i64 30) :: (.tuple #[sv [.n 6 0, .n 6 0, .n 6 0, .n 6 0, .b false], .int .i64 30]) :: (sv [.n 6 x0, .n 6 x1, .n 6 y0, .n 6 y1, .b i]) :: (.tuple #[sv [.n 6 0, .n 6 0, .n 6 0, .n 6 0, .b false], .int .i64 30]) :: (sv [.n 6 0, .n 6 0, .n 6 0, .n 6 0, .b false]) :: (.int .i64 30) :: (sv [.n 6 x0, .n 6 x1, .n 6 y0, .n 6 y1, .b i]) :: (.bool false) :: (sv [.n 6 x02, .n 6 x12, .n 6 y02, .n 6 y12, .b i2]) :: (.bool false) :: (.bool false) :: (.int .i64 30) :: (.bool false) :: (.bool false) :: (.bool false) :: (.bool false) :: (.bool false) :: undef :: undef :: undef :: undef :: (.bool false) :: (.bool false) :: (.bool false) :: (.bool false) :: (.bool true) :: (.bool true) :: (.int .i64 30) :: (.bool false) :: (.bool false) :: (sv [.n 6 0, .n 6 0, .n 6 0, .n 6 0, .b false]) :: (sv [.n 6 0, .n 6 0, .n 6 0, .n 6 0, .b false]) :: (.bool false) :: (.bool false) :: (.bool false) :: (.bool false) :: (.bool false) :: (.bool true) :: (.bool true) :: undef :: undef :: (.bool true) :: (.bool true) :: (.bool true) :: (.int .i64 30) :: (.bool true) :: (.bool true) :: (.bool true) :: (sv [.n 6 0, .n 6 0, .n 6 0, .n 6 0, .b false]) :: (sv [.n 6 0, .n 6 0, .n 6 0, .n 6 0, .b false]) :: (.bool true) :: (.bool true) :: undef :: undef :: undef :: undef :: undef :: undef :: undef :: undef :: undef :: undef :: undef :: []), []⟩) 0 (fun _ => 0) (fun _ => 0) (fun _ => 0) (fun _ => []) (fun _ => []) [58, 59, 60, 61, 62, 63, 64, 65, 66, 67, 4] (.inr ⟨rfl, by kernel_rfl⟩) (by kernel_rfl) rfl rfl rfl ?_ ?_)
  · refine GSteps.cons (gm_call (v := .bool true) rfl (fun _ => rfl) (fun _ => rfl) (fun γ w => ex_call (vs := []) rfl Tryz.call11 rfl) (fun w h => twoalive_v _) rfl) ?_
    refine GSteps.cons (gm_val (v := .bool true) rfl (fun _ => rfl) (fun _ => rfl) (fun γ w h => ex_move _) rfl) ?_
    refine GSteps.cons (gm_val (v := .int .i64 30) rfl (fun _ => rfl) (fun _ => rfl) (fun γ w h => ex_move _) rfl) ?_
    refine GSteps.cons (gm_val (v := .bool true) rfl (fun _ => rfl) (fun _ => rfl) (fun γ w h => ex_eqi rfl rfl _ rfl) rfl) ?_
    refine GSteps.cons (gm_val (v := .bool true) rfl (fun _ => rfl) (fun _ => rfl) (fun γ w h => ex_pick (r := true) rfl) rfl) ?_
    refine GSteps.cons (gm_val (v := .bool true) rfl (fun _ => rfl) (fun _ => rfl) (fun γ w h => ex_move _) rfl) ?_
    refine GSteps.cons (gm_val (v := sv [.n 6 0, .n 6 0, .n 6 0, .n 6 0, .b false]) rfl (fun _ => rfl) (fun _ => rfl) (fun γ w h => ex_loads 0 5 (m := [.n 6 0, .n 6 0, .n 6 0, .n 6 0, .b false]) flG2 rfl rfl (A31.keep h.out) rfl rfl) rfl) ?_
    refine GSteps.cons (gm_val (v := sv [.n 6 0, .n 6 0, .n 6 0, .n 6 0, .b false]) rfl (fun _ => rfl) (fun _ => rfl) (fun γ w h => ex_builds stG2 (l := [.n 6 0, .n 6 0, .n 6 0, .n 6 0, .b false]) (vs := []) rfl rfl) rfl) ?_
    refine GSteps.cons (gm_val (v := .bool true) rfl (fun _ => rfl) (fun _ => rfl) (fun γ w h => ex_eqs gdG2 eqG2 rfl rfl rfl (shG2_of zero_B zero_B zero_B zero_B) (shG2_of zero_B zero_B zero_B zero_B) true (by simp)) rfl) ?_
    refine GSteps.cons (gm_val (v := .bool true) rfl (fun _ => rfl) (fun _ => rfl) (fun γ w h => ex_pick (r := true) rfl) rfl) ?_
    refine GSteps.cons (gm_val (v := .bool true) rfl (fun _ => rfl) (fun _ => rfl) (fun γ w h => ex_assign _) rfl) ?_
    exact GSteps.nil
  intro _ w34 hb34 _ _
  refine th_r ?_
  have A35 := A29.keep hb34.out
  have A36 := A30.keep hb34.out
  have A37 := A31.keep hb34.out
  have A38 := A32.keep hb34.out
  have HB39 := below_then HB33 hb34.out
  exact wp_ret (th_ret (bodyPost_ret (ret1 Tryz.results3 (res_tmp rfl)) rfl ⟨rfl, HB39⟩))

theorem twoSums_v (x0 : Nat) (x1 : Nat) (y0 : Nat) (y1 : Nat) (i : Bool) (x02 : Nat) (x12 : Nat) (y02 : Nat) (y12 : Nat) (i2 : Bool) (hx0 : x0 < fpB) (hx1 : x1 < fpB) (hy0 : y0 < fpB) (hy1 : y1 < fpB) (hx02 : x02 < fpB) (hx12 : x12 < fpB) (hy02 : y02 < fpB) (hy12 : y12 < fpB) (w : World) :
    Calls Tryz.prog 3 #[sv [.n 6 x0, .n 6 x1, .n 6 y0, .n 6 y1, .b i], sv [.n 6 x02, .n 6 x12, .n 6 y02, .n 6 y12, .b i2]] w (Is (.bool true) w) := by
  by_cases o : RawOk2 x0 x1 y0 y1 i
  · obtain ⟨P, rfl, rfl, rfl, rfl, rfl⟩ := o
    by_cases o2 : RawOk2 x02 x12 y02 y12 i2
    · obtain ⟨Q, rfl, rfl, rfl, rfl, rfl⟩ := o2
      exact twoSums_pp P Q w
    · exact twoSums_pn P x02 x12 y02 y12 i2 hx02 hx12 hy02 hy12 o2 w
  · by_cases o2 : RawOk2 x02 x12 y02 y12 i2
    · obtain ⟨Q, rfl, rfl, rfl, rfl, rfl⟩ := o2
      exact twoSums_np x0 x1 y0 y1 i hx0 hx1 hy0 hy1 o Q w
    · exact twoSums_nn x0 x1 y0 y1 i hx0 hx1 hy0 hy1 o x02 x12 y02 y12 i2 hx02 hx12 hy02 hy12 o2 w
end Go.Proofs.YtmhieifjmgcbkaaGreat

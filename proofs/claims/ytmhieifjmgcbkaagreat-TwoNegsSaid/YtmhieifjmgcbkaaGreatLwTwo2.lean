/- What is proved here: the laws of package two on how often a point is taken. -/
import Derived.Test.YtmhieifjmgcbkaaGreatLwTwo1
import Derived.Test.YtmhieifjmgcbkaaGreatNumFr
import Derived.Test.YtmhieifjmgcbkaaGreatRef1Fp
import Derived.Test.YtmhieifjmgcbkaaGreatFn1Fr
import Derived.Deep.RegionHeld3
namespace Go.Proofs.YtmhieifjmgcbkaaGreat
open Go.RowKit Cv

theorem fr_modB2 (a : Nat) : a % rN < frB := Nat.lt_trans (frM_mod a) frM_lt

set_option maxRecDepth 20000 in
set_option maxHeartbeats 4000000 in
theorem twoNegs_n (x0 : Nat) (x1 : Nat) (y0 : Nat) (y1 : Nat) (i : Bool) (hx0 : x0 < fpB) (hx1 : x1 < fpB) (hy0 : y0 < fpB) (hy1 : y1 < fpB) (h0 : ¬ RawOk2 x0 x1 y0 y1 i) (k : Nat) (w : World) :
    Calls Tryz.prog 6 #[sv [.n 6 x0, .n 6 x1, .n 6 y0, .n 6 y1, .b i], nv 4 [k]] w (Is (.bool true) w) := by
  go_enter Tryz.func6, Tryz.ntmps6
  refine wp_seq (region_m (F := fun γ => ⟨List.toArray ((sv [.n 6 x0, .n 6 x1, .n 6 y0, .n 6 y1, .b i]) :: (nv 4 [k]) :: (.pointer (some ⟨γ 0, 0, none⟩)) :: (.pointer (some ⟨γ 1, 0, none⟩)) :: (.bool false) :: undef :: undef :: undef :: undef :: undef :: undef :: undef :: undef :: undef :: undef :: undef :: undef :: undef :: undef :: undef :: undef :: undef :: undef :: undef :: undef :: undef :: undef :: undef :: undef :: undef :: undef :: undef :: undef :: undef :: undef :: undef :: undef :: undef :: undef :: undef :: undef :: undef :: undef :: undef :: undef :: undef :: undef :: undef :: undef :: undef :: undef :: undef :: undef :: undef :: undef :: undef :: undef :: []), []⟩) 2 (fun j_ => match j_ with | 0 => 28 | _ => 41) (fun j_ => match j_ with | 0 => 0 | _ => 1) (fun j_ => match j_ with | 0 => 0 | _ => 1) (fun j_ => match j_ with | 0 => segs [.n 6 x0, .n 6 x1, .n 6 y0, .n 6 y1, .b i] | _ => segs [.n 4 k]) (fun j_ => match j_ with | 0 => segs [.n 6 x0, .n 6 x1, .n 6 y0, .n 6 y1, .b i] | _ => segs [.n 4 k]) [2, 3, 4] (.inr ⟨rfl, by kernel_rfl⟩) (by kernel_rfl) rfl rfl rfl ?_ ?_)
  · refine GSteps.cons (gm_box 0 rfl (fun _ => rfl) (fun _ _ => rfl) (fun γ w h => ex_boxs (l := [.n 6 x0, .n 6 x1, .n 6 y0, .n 6 y1, .b i]) rfl) rfl rfl rfl) ?_
    refine GSteps.cons (gm_box 1 rfl (fun _ => rfl) (fun _ _ => rfl) (fun γ w h => ex_boxsn (K := 4) (l := [k]) rfl) rfl rfl rfl) ?_
    refine GSteps.cons (gm_val (v := .bool false) rfl (fun _ => rfl) (fun _ => rfl) (fun γ w h => ex_assign _) rfl) ?_
    exact GSteps.nil
  intro γ1 w1 hb1 hB1 hn1
  refine th_r ?_
  have A2 : SB 28 w1 (γ1 0) [.n 6 x0, .n 6 x1, .n 6 y0, .n 6 y1, .b i] := (hB1 0 (by decide)).2
  have le2 := (hB1 0 (by decide)).1
  have A3 : SB 41 w1 (γ1 1) [.n 4 k] := (hB1 1 (by decide)).2
  have le3 := (hB1 1 (by decide)).1
  have HB4 := below_then (Below.refl w.heap.size w) hb1.out
  refine wp_seq ?_
  refine wp_seq (region_m (F := fun _ => ⟨List.toArray ((sv [.n 6 x0, .n 6 x1, .n 6 y0, .n 6 y1, .b i]) :: (nv 4 [k]) :: (.pointer (some ⟨(γ1 0), 0, none⟩)) :: (.pointer (some ⟨(γ1 1), 0, none⟩)) :: (.bool false) :: undef :: undef :: undef :: undef :: (sv [.n 6 x0, .n 6 x1, .n 6 y0, .n 6 y1, .b i]) :: (.bool false) :: (.bool true) :: undef :: undef :: undef :: undef :: undef :: undef :: undef :: undef :: undef :: undef :: undef :: undef :: undef :: undef :: undef :: undef :: undef :: undef :: undef :: undef :: undef :: undef :: undef :: undef :: undef :: undef :: undef :: undef :: undef :: undef :: undef :: undef :: undef :: undef :: undef :: undef :: undef :: undef :: undef :: undef :: undef :: undef :: undef :: undef :: undef :: []), []⟩) 0 (fun _ => 0) (fun _ => 0) (fun _ => 0) (fun _ => []) (fun _ => []) [9, 10, 11] (.inr ⟨rfl, by kernel_rfl⟩) (by kernel_rfl) rfl rfl rfl ?_ ?_)
  · refine GSteps.cons (gm_val (v := sv [.n 6 x0, .n 6 x1, .n 6 y0, .n 6 y1, .b i]) rfl (fun _ => rfl) (fun _ => rfl) (fun γ w h => ex_loads 0 5 (m := [.n 6 x0, .n 6 x1, .n 6 y0, .n 6 y1, .b i]) flG2 rfl rfl (A2.keep h.out) rfl rfl) rfl) ?_
    refine GSteps.cons (gm_call (v := .bool false) rfl (fun _ => rfl) (fun _ => rfl) (fun γ w => ex_call (vs := [sv [.n 6 x0, .n 6 x1, .n 6 y0, .n 6 y1, .b i]]) rfl Tryz.call9 rfl) (fun w h => r9Right_no hx0 hx1 hy0 hy1 h0 _) rfl) ?_
    refine GSteps.cons (gm_val (v := .bool true) rfl (fun _ => rfl) (fun _ => rfl) (fun γ w h => ex_not (r := false) rfl) rfl) ?_
    exact GSteps.nil
  intro _ w5 hb5 _ _
  refine th_r ?_
  have A6 := A2.keep hb5.out
  have A7 := A3.keep hb5.out
  have HB8 := below_then HB4 hb5.out
  refine wp_cond_true rfl ?_
  refine wp_seq (region_m (F := fun _ => ⟨List.toArray ((sv [.n 6 x0, .n 6 x1, .n 6 y0, .n 6 y1, .b i]) :: (nv 4 [k]) :: (.pointer (some ⟨(γ1 0), 0, none⟩)) :: (.pointer (some ⟨(γ1 1), 0, none⟩)) :: (.bool true) :: undef :: undef :: undef :: undef :: (sv [.n 6 x0, .n 6 x1, .n 6 y0, .n 6 y1, .b i]) :: (.bool false) :: (.bool true) :: (.bool true) :: undef :: undef :: undef :: undef :: undef :: undef :: undef :: undef :: undef :: undef :: undef :: undef :: undef :: undef :: undef :: undef :: undef :: undef :: undef :: undef :: undef :: undef :: undef :: undef :: undef :: undef :: undef :: undef :: undef :: undef :: undef :: undef :: undef :: undef :: undef :: undef :: undef :: undef :: undef :: undef :: undef :: undef :: undef :: undef :: []), []⟩) 0 (fun _ => 0) (fun _ => 0) (fun _ => 0) (fun _ => []) (fun _ => []) [12, 4] (.inr ⟨rfl, by kernel_rfl⟩) (by kernel_rfl) rfl rfl rfl ?_ ?_)
  · refine GSteps.cons (gm_call (v := .bool true) rfl (fun _ => rfl) (fun _ => rfl) (fun γ w => ex_call (vs := []) rfl Tryz.call11 rfl) (fun w h => twoalive_v _) rfl) ?_
    refine GSteps.cons (gm_val (v := .bool true) rfl (fun _ => rfl) (fun _ => rfl) (fun γ w h => ex_assign _) rfl) ?_
    exact GSteps.nil
  intro _ w9 hb9 _ _
  refine th_r ?_
  have A10 := A6.keep hb9.out
  have A11 := A7.keep hb9.out
  have HB12 := below_then HB8 hb9.out
  exact wp_ret (th_ret (bodyPost_ret (ret1 Tryz.results6 (res_tmp rfl)) rfl ⟨rfl, HB12⟩))

set_option maxRecDepth 20000 in
set_option maxHeartbeats 4000000 in
theorem twoNegs_0 (P : E2) (hT : EP.times C2 rN P ≠ EP.zero) (k : Nat) (hk : k < frB) (w : World) :
    Calls Tryz.prog 6 #[sv [.n 6 (bx0 P.pt), .n 6 (bx1 P.pt), .n 6 (by0 P.pt), .n 6 (by1 P.pt), .b (bi P.pt)], nv 4 [k]] w (Is (.bool true) w) := by
  obtain ⟨N, hN⟩ : ∃ q_ : E2, q_ = P.neg := ⟨_, rfl⟩
  obtain ⟨A, hA⟩ : ∃ q_ : E2, q_ = EP.times C2 k P := ⟨_, rfl⟩
  obtain ⟨B, hB⟩ : ∃ q_ : E2, q_ = A.neg := ⟨_, rfl⟩
  go_enter Tryz.func6, Tryz.ntmps6
  refine wp_seq (region_m (F := fun γ => ⟨List.toArray ((sv [.n 6 (bx0 P.pt), .n 6 (bx1 P.pt), .n 6 (by0 P.pt), .n 6 (by1 P.pt), .b (bi P.pt)]) :: (nv 4 [k]) :: (.pointer (some ⟨γ 0, 0, none⟩)) :: (.pointer (some ⟨γ 1, 0, none⟩)) :: (.bool false) :: undef :: undef :: undef :: undef :: undef :: undef :: undef :: undef :: undef :: undef :: undef :: undef :: undef :: undef :: undef :: undef :: undef :: undef :: undef :: undef :: undef :: undef :: undef :: undef :: undef :: undef :: undef :: undef :: undef :: undef :: undef :: undef :: undef :: undef :: undef :: undef :: undef :: undef :: undef :: undef :: undef :: undef :: undef :: undef :: undef :: undef :: undef :: undef :: undef :: undef :: undef :: undef :: []), []⟩) 2 (fun j_ => match j_ with | 0 => 28 | _ => 41) (fun j_ => match j_ with | 0 => 0 | _ => 1) (fun j_ => match j_ with | 0 => 0 | _ => 1) (fun j_ => match j_ with | 0 => segs [.n 6 (bx0 P.pt), .n 6 (bx1 P.pt), .n 6 (by0 P.pt), .n 6 (by1 P.pt), .b (bi P.pt)] | _ => segs [.n 4 k]) (fun j_ => match j_ with | 0 => segs [.n 6 (bx0 P.pt), .n 6 (bx1 P.pt), .n 6 (by0 P.pt), .n 6 (by1 P.pt), .b (bi P.pt)] | _ => segs [.n 4 k]) [2, 3, 4] (.inr ⟨rfl, by kernel_rfl⟩) (by kernel_rfl) rfl rfl rfl ?_ ?_)
  · refine GSteps.cons (gm_box 0 rfl (fun _ => rfl) (fun _ _ => rfl) (fun γ w h => ex_boxs (l := [.n 6 (bx0 P.pt), .n 6 (bx1 P.pt), .n 6 (by0 P.pt), .n 6 (by1 P.pt), .b (bi P.pt)]) rfl) rfl rfl rfl) ?_
    refine GSteps.cons (gm_box 1 rfl (fun _ => rfl) (fun _ _ => rfl) (fun γ w h => ex_boxsn (K := 4) (l := [k]) rfl) rfl rfl rfl) ?_
    refine GSteps.cons (gm_val (v := .bool false) rfl (fun _ => rfl) (fun _ => rfl) (fun γ w h => ex_assign _) rfl) ?_
    exact GSteps.nil
  intro γ1 w1 hb1 hB1 hn1
  refine th_r ?_
  have A2 : SB 28 w1 (γ1 0) [.n 6 (bx0 P.pt), .n 6 (bx1 P.pt), .n 6 (by0 P.pt), .n 6 (by1 P.pt), .b (bi P.pt)] := (hB1 0 (by decide)).2
  have le2 := (hB1 0 (by decide)).1
  have A3 : SB 41 w1 (γ1 1) [.n 4 k] := (hB1 1 (by decide)).2
  have le3 := (hB1 1 (by decide)).1
  have HB4 := below_then (Below.refl w.heap.size w) hb1.out
  refine wp_seq ?_
  refine wp_seq (region_m (F := fun _ => ⟨List.toArray ((sv [.n 6 (bx0 P.pt), .n 6 (bx1 P.pt), .n 6 (by0 P.pt), .n 6 (by1 P.pt), .b (bi P.pt)]) :: (nv 4 [k]) :: (.pointer (some ⟨(γ1 0), 0, none⟩)) :: (.pointer (some ⟨(γ1 1), 0, none⟩)) :: (.bool false) :: undef :: undef :: undef :: undef :: (sv [.n 6 (bx0 P.pt), .n 6 (bx1 P.pt), .n 6 (by0 P.pt), .n 6 (by1 P.pt), .b (bi P.pt)]) :: (.bool true) :: (.bool false) :: undef :: undef :: undef :: undef :: undef :: undef :: undef :: undef :: undef :: undef :: undef :: undef :: undef :: undef :: undef :: undef :: undef :: undef :: undef :: undef :: undef :: undef :: undef :: undef :: undef :: undef :: undef :: undef :: undef :: undef :: undef :: undef :: undef :: undef :: undef :: undef :: undef :: undef :: undef :: undef :: undef :: undef :: undef :: undef :: undef :: []), []⟩) 0 (fun _ => 0) (fun _ => 0) (fun _ => 0) (fun _ => []) (fun _ => []) [9, 10, 11] (.inr ⟨rfl, by kernel_rfl⟩) (by kernel_rfl) rfl rfl rfl ?_ ?_)
  · refine GSteps.cons (gm_val (v := sv [.n 6 (bx0 P.pt), .n 6 (bx1 P.pt), .n 6 (by0 P.pt), .n 6 (by1 P.pt), .b (bi P.pt)]) rfl (fun _ => rfl) (fun _ => rfl) (fun γ w h => ex_loads 0 5 (m := [.n 6 (bx0 P.pt), .n 6 (bx1 P.pt), .n 6 (by0 P.pt), .n 6 (by1 P.pt), .b (bi P.pt)]) flG2 rfl rfl (A2.keep h.out) rfl rfl) rfl) ?_
    refine GSteps.cons (gm_call (v := .bool true) rfl (fun _ => rfl) (fun _ => rfl) (fun γ w => ex_call (vs := [sv [.n 6 (bx0 P.pt), .n 6 (bx1 P.pt), .n 6 (by0 P.pt), .n 6 (by1 P.pt), .b (bi P.pt)]]) rfl Tryz.call9 rfl) (fun w h => r9Right_p P _) rfl) ?_
    refine GSteps.cons (gm_val (v := .bool false) rfl (fun _ => rfl) (fun _ => rfl) (fun γ w h => ex_not (r := true) rfl) rfl) ?_
    exact GSteps.nil
  intro _ w5 hb5 _ _
  refine th_r ?_
  have A6 := A2.keep hb5.out
  have A7 := A3.keep hb5.out
  have HB8 := below_then HB4 hb5.out
  refine wp_cond_false rfl ?_
  refine wp_skip ?_
  refine th_r ?_
  refine wp_seq (region_m (F := fun γ => ⟨List.toArray ((sv [.n 6 (bx0 P.pt), .n 6 (bx1 P.pt), .n 6 (by0 P.pt), .n 6 (by1 P.pt), .b (bi P.pt)]) :: (nv 4 [k]) :: (.pointer (some ⟨(γ1 0), 0, none⟩)) :: (.pointer (some ⟨(γ1 1), 0, none⟩)) :: (.bool false) :: (.pointer (some ⟨γ 0, 0, none⟩)) :: (.int .i64 0) :: undef :: undef :: (sv [.n 6 (bx0 P.pt), .n 6 (bx1 P.pt), .n 6 (by0 P.pt), .n 6 (by1 P.pt), .b (bi P.pt)]) :: (.bool true) :: (.bool false) :: undef :: (.tuple #[sv [.n 6 (bx0 N.pt), .n 6 (bx1 N.pt), .n 6 (by0 N.pt), .n 6 (by1 N.pt), .b (bi N.pt)], .int .i64 0]) :: (sv [.n 6 (bx0 P.pt), .n 6 (bx1 P.pt), .n 6 (by0 P.pt), .n 6 (by1 P.pt), .b (bi P.pt)]) :: (.tuple #[sv [.n 6 (bx0 N.pt), .n 6 (bx1 N.pt), .n 6 (by0 N.pt), .n 6 (by1 N.pt), .b (bi N.pt)], .int .i64 0]) :: (sv [.n 6 (bx0 N.pt), .n 6 (bx1 N.pt), .n 6 (by0 N.pt), .n 6 (by1 N.pt), .b (bi N.pt)]) :: (.int .i64 0) :: undef :: undef :: undef :: undef :: undef :: undef :: undef :: undef :: undef :: undef :: undef :: undef :: undef :: undef :: undef :: undef :: undef :: undef :: undef :: undef :: undef :: undef :: undef :: undef :: undef :: undef :: undef :: undef :: undef :: undef :: undef :: undef :: undef :: undef :: undef :: undef :: undef :: undef :: undef :: []), []⟩) 1 (fun _ => 28) (fun _ => 5) (fun _ => 6) (fun _ => segs [.n 6 0, .n 6 0, .n 6 0, .n 6 0, .b false]) (fun _ => segs [.n 6 (bx0 N.pt), .n 6 (bx1 N.pt), .n 6 (by0 N.pt), .n 6 (by1 N.pt), .b (bi N.pt)]) [14, 15, 13, 16, 17, 5, 6] (.inr ⟨rfl, by kernel_rfl⟩) (by kernel_rfl) rfl rfl rfl ?_ ?_)
  · refine GSteps.cons (gm_val (v := sv [.n 6 (bx0 P.pt), .n 6 (bx1 P.pt), .n 6 (by0 P.pt), .n 6 (by1 P.pt), .b (bi P.pt)]) rfl (fun _ => rfl) (fun _ => rfl) (fun γ w h => ex_loads 0 5 (m := [.n 6 (bx0 P.pt), .n 6 (bx1 P.pt), .n 6 (by0 P.pt), .n 6 (by1 P.pt), .b (bi P.pt)]) flG2 rfl rfl (A6.keep h.out) rfl rfl) rfl) ?_
    refine GSteps.cons (gm_call (v := .tuple #[sv [.n 6 (bx0 N.pt), .n 6 (bx1 N.pt), .n 6 (by0 N.pt), .n 6 (by1 N.pt), .b (bi N.pt)], .int .i64 0]) rfl (fun _ => rfl) (fun _ => rfl) (fun γ w => ex_call (vs := [sv [.n 6 (bx0 P.pt), .n 6 (bx1 P.pt), .n 6 (by0 P.pt), .n 6 (by1 P.pt), .b (bi P.pt)]]) rfl Tryz.call8 rfl) (fun w h => twoNeg_q P N hN.symm _) rfl) ?_
    refine GSteps.cons (gm_val (v := .tuple #[sv [.n 6 (bx0 N.pt), .n 6 (bx1 N.pt), .n 6 (by0 N.pt), .n 6 (by1 N.pt), .b (bi N.pt)], .int .i64 0]) rfl (fun _ => rfl) (fun _ => rfl) (fun γ w h => ex_move _) rfl) ?_
    refine GSteps.cons (gm_val (v := sv [.n 6 (bx0 N.pt), .n 6 (bx1 N.pt), .n 6 (by0 N.pt), .n 6 (by1 N.pt), .b (bi N.pt)]) rfl (fun _ => rfl) (fun _ => rfl) (fun γ w h => ex_extract (vs := [sv [.n 6 (bx0 N.pt), .n 6 (bx1 N.pt), .n 6 (by0 N.pt), .n 6 (by1 N.pt), .b (bi N.pt)], .int .i64 0]) rfl rfl) rfl) ?_
    refine GSteps.cons (gm_val (v := .int .i64 0) rfl (fun _ => rfl) (fun _ => rfl) (fun γ w h => ex_extract (vs := [sv [.n 6 (bx0 N.pt), .n 6 (bx1 N.pt), .n 6 (by0 N.pt), .n 6 (by1 N.pt), .b (bi N.pt)], .int .i64 0]) rfl rfl) rfl) ?_
    refine GSteps.cons (gm_new 0 rfl (fun _ => rfl) (fun _ _ => rfl) (fun γ w => ex_allocs (l := [.n 6 0, .n 6 0, .n 6 0, .n 6 0, .b false]) zG2) rfl (by kernel_rfl)) ?_
    refine GSteps.cons (gm_store 0 rfl rfl (fun _ => rfl) (len_segs (l := [.n 6 (bx0 N.pt), .n 6 (bx1 N.pt), .n 6 (by0 N.pt), .n 6 (by1 N.pt), .b (bi N.pt)]) (l' := [.n 6 0, .n 6 0, .n 6 0, .n 6 0, .b false]) rfl) (fun γ w h => ex_stores 0 5 (l := [.n 6 0, .n 6 0, .n 6 0, .n 6 0, .b false]) (m := [.n 6 (bx0 N.pt), .n 6 (bx1 N.pt), .n 6 (by0 N.pt), .n 6 (by1 N.pt), .b (bi N.pt)]) flG2.2 rfl rfl rfl rfl h rfl rfl) rfl rfl (by kernel_rfl)) ?_
    refine GSteps.cons (gm_val (v := .int .i64 0) rfl (fun _ => rfl) (fun _ => rfl) (fun γ w h => ex_assign _) rfl) ?_
    exact GSteps.nil
  intro γ9 w9 hb9 hB9 _
  refine th_r ?_
  have A10 := A6.keep hb9.out
  have A11 := A7.keep hb9.out
  have A12 : SB 28 w9 (γ9 0) [.n 6 (bx0 N.pt), .n 6 (bx1 N.pt), .n 6 (by0 N.pt), .n 6 (by1 N.pt), .b (bi N.pt)] := (hB9 0 (by decide)).2
  have le12 := (hB9 0 (by decide)).1
  have HB13 := below_then HB8 hb9.out
  refine wp_seq (region_m (F := fun γ => ⟨List.toArray ((sv [.n 6 (bx0 P.pt), .n 6 (bx1 P.pt), .n 6 (by0 P.pt), .n 6 (by1 P.pt), .b (bi P.pt)]) :: (nv 4 [k]) :: (.pointer (some ⟨(γ1 0), 0, none⟩)) :: (.pointer (some ⟨(γ1 1), 0, none⟩)) :: (.bool false) :: (.pointer (some ⟨(γ9 0), 0, none⟩)) :: (.int .i64 0) :: (.pointer (some ⟨γ 0, 0, none⟩)) :: (.int .i64 0) :: (sv [.n 6 (bx0 P.pt), .n 6 (bx1 P.pt), .n 6 (by0 P.pt), .n 6 (by1 P.pt), .b (bi P.pt)]) :: (.bool true) :: (.bool false) :: undef :: (.tuple #[sv [.n 6 (bx0 N.pt), .n 6 (bx1 N.pt), .n 6 (by0 N.pt), .n 6 (by1 N.pt), .b (bi N.pt)], .int .i64 0]) :: (sv [.n 6 (bx0 P.pt), .n 6 (bx1 P.pt), .n 6 (by0 P.pt), .n 6 (by1 P.pt), .b (bi P.pt)]) :: (.tuple #[sv [.n 6 (bx0 N.pt), .n 6 (bx1 N.pt), .n 6 (by0 N.pt), .n 6 (by1 N.pt), .b (bi N.pt)], .int .i64 0]) :: (sv [.n 6 (bx0 N.pt), .n 6 (bx1 N.pt), .n 6 (by0 N.pt), .n 6 (by1 N.pt), .b (bi N.pt)]) :: (.int .i64 0) :: (.tuple #[sv [.n 6 (bx0 B.pt), .n 6 (bx1 B.pt), .n 6 (by0 B.pt), .n 6 (by1 B.pt), .b (bi B.pt)], .int .i64 0]) :: (sv [.n 6 (bx0 P.pt), .n 6 (bx1 P.pt), .n 6 (by0 P.pt), .n 6 (by1 P.pt), .b (bi P.pt)]) :: (nv 4 [k]) :: (sv [.n 6 (bx0 A.pt), .n 6 (bx1 A.pt), .n 6 (by0 A.pt), .n 6 (by1 A.pt), .b (bi A.pt)]) :: (.tuple #[sv [.n 6 (bx0 B.pt), .n 6 (bx1 B.pt), .n 6 (by0 B.pt), .n 6 (by1 B.pt), .b (bi B.pt)], .int .i64 0]) :: (sv [.n 6 (bx0 B.pt), .n 6 (bx1 B.pt), .n 6 (by0 B.pt), .n 6 (by1 B.pt), .b (bi B.pt)]) :: (.int .i64 0) :: undef :: undef :: undef :: undef :: undef :: undef :: undef :: undef :: undef :: undef :: undef :: undef :: undef :: undef :: undef :: undef :: undef :: undef :: undef :: undef :: undef :: undef :: undef :: undef :: undef :: undef :: undef :: undef :: undef :: undef :: undef :: undef :: []), []⟩) 1 (fun _ => 28) (fun _ => 7) (fun _ => 8) (fun _ => segs [.n 6 0, .n 6 0, .n 6 0, .n 6 0, .b false]) (fun _ => segs [.n 6 (bx0 B.pt), .n 6 (bx1 B.pt), .n 6 (by0 B.pt), .n 6 (by1 B.pt), .b (bi B.pt)]) [19, 20, 21, 22, 18, 23, 24, 7, 8] (.inr ⟨rfl, by kernel_rfl⟩) (by kernel_rfl) rfl rfl rfl ?_ ?_)
  · refine GSteps.cons (gm_val (v := sv [.n 6 (bx0 P.pt), .n 6 (bx1 P.pt), .n 6 (by0 P.pt), .n 6 (by1 P.pt), .b (bi P.pt)]) rfl (fun _ => rfl) (fun _ => rfl) (fun γ w h => ex_loads 0 5 (m := [.n 6 (bx0 P.pt), .n 6 (bx1 P.pt), .n 6 (by0 P.pt), .n 6 (by1 P.pt), .b (bi P.pt)]) flG2 rfl rfl (A10.keep h.out) rfl rfl) rfl) ?_
    refine GSteps.cons (gm_val (v := nv 4 [k]) rfl (fun _ => rfl) (fun _ => rfl) (fun γ w h => ex_loadsn (K := 4) 0 1 (m := [k]) flFr rfl rfl (A11.keep h.out) rfl rfl) rfl) ?_
    refine GSteps.cons (gm_call (v := sv [.n 6 (bx0 A.pt), .n 6 (bx1 A.pt), .n 6 (by0 A.pt), .n 6 (by1 A.pt), .b (bi A.pt)]) rfl (fun _ => rfl) (fun _ => rfl) (fun γ w => ex_call (vs := [sv [.n 6 (bx0 P.pt), .n 6 (bx1 P.pt), .n 6 (by0 P.pt), .n 6 (by1 P.pt), .b (bi P.pt)], nv 4 [k]]) rfl Tryz.call16 rfl) (fun w h => twomul_v P A k hk hA.symm _) rfl) ?_
    refine GSteps.cons (gm_call (v := .tuple #[sv [.n 6 (bx0 B.pt), .n 6 (bx1 B.pt), .n 6 (by0 B.pt), .n 6 (by1 B.pt), .b (bi B.pt)], .int .i64 0]) rfl (fun _ => rfl) (fun _ => rfl) (fun γ w => ex_call (vs := [sv [.n 6 (bx0 A.pt), .n 6 (bx1 A.pt), .n 6 (by0 A.pt), .n 6 (by1 A.pt), .b (bi A.pt)]]) rfl Tryz.call8 rfl) (fun w h => twoNeg_q A B hB.symm _) rfl) ?_
    refine GSteps.cons (gm_val (v := .tuple #[sv [.n 6 (bx0 B.pt), .n 6 (bx1 B.pt), .n 6 (by0 B.pt), .n 6 (by1 B.pt), .b (bi B.pt)], .int .i64 0]) rfl (fun _ => rfl) (fun _ => rfl) (fun γ w h => ex_move _) rfl) ?_
    refine GSteps.cons (gm_val (v := sv [.n 6 (bx0 B.pt), .n 6 (bx1 B.pt), .n 6 (by0 B.pt), .n 6 (by1 B.pt), .b (bi B.pt)]) rfl (fun _ => rfl) (fun _ => rfl) (fun γ w h => ex_extract (vs := [sv [.n 6 (bx0 B.pt), .n 6 (bx1 B.pt), .n 6 (by0 B.pt), .n 6 (by1 B.pt), .b (bi B.pt)], .int .i64 0]) rfl rfl) rfl) ?_
    refine GSteps.cons (gm_val (v := .int .i64 0) rfl (fun _ => rfl) (fun _ => rfl) (fun γ w h => ex_extract (vs := [sv [.n 6 (bx0 B.pt), .n 6 (bx1 B.pt), .n 6 (by0 B.pt), .n 6 (by1 B.pt), .b (bi B.pt)], .int .i64 0]) rfl rfl) rfl) ?_
    refine GSteps.cons (gm_new 0 rfl (fun _ => rfl) (fun _ _ => rfl) (fun γ w => ex_allocs (l := [.n 6 0, .n 6 0, .n 6 0, .n 6 0, .b false]) zG2) rfl (by kernel_rfl)) ?_
    refine GSteps.cons (gm_store 0 rfl rfl (fun _ => rfl) (len_segs (l := [.n 6 (bx0 B.pt), .n 6 (bx1 B.pt), .n 6 (by0 B.pt), .n 6 (by1 B.pt), .b (bi B.pt)]) (l' := [.n 6 0, .n 6 0, .n 6 0, .n 6 0, .b false]) rfl) (fun γ w h => ex_stores 0 5 (l := [.n 6 0, .n 6 0, .n 6 0, .n 6 0, .b false]) (m := [.n 6 (bx0 B.pt), .n 6 (bx1 B.pt), .n 6 (by0 B.pt), .n 6 (by1 B.pt), .b (bi B.pt)]) flG2.2 rfl rfl rfl rfl h rfl rfl) rfl rfl (by kernel_rfl)) ?_
    refine GSteps.cons (gm_val (v := .int .i64 0) rfl (fun _ => rfl) (fun _ => rfl) (fun γ w h => ex_assign _) rfl) ?_
    exact GSteps.nil
  intro γ14 w14 hb14 hB14 _
  refine th_r ?_
  have A15 := A10.keep hb14.out
  have A16 := A11.keep hb14.out
  have A17 := A12.keep hb14.out
  have A18 : SB 28 w14 (γ14 0) [.n 6 (bx0 B.pt), .n 6 (bx1 B.pt), .n 6 (by0 B.pt), .n 6 (by1 B.pt), .b (bi B.pt)] := (hB14 0 (by decide)).2
  have le18 := (hB14 0 (by decide)).1
  have HB19 := below_then HB13 hb14.out
  refine wp_seq ?_
  refine wp_seq (region_m (F := fun _ => ⟨List.toArray ((sv [.n 6 (bx0 P.pt), .n 6 (bx1 P.pt), .n 6 (by0 P.pt), .n 6 (by1 P.pt), .b (bi P.pt)]) :: (nv 4 [k]) :: (.pointer (some ⟨(γ1 0), 0, none⟩)) :: (.pointer (some ⟨(γ1 1), 0, none⟩)) :: (.bool false) :: (.pointer (some ⟨(γ9 0), 0, none⟩)) :: (.int .i64 0) :: (.pointer (some ⟨(γ14 0), 0, none⟩)) :: (.int .i64 0) :: (sv [.n 6 (bx0 P.pt), .n 6 (bx1 P.pt), .n 6 (by0 P.pt), .n 6 (by1 P.pt), .b (bi P.pt)]) :: (.bool true) :: (.bool false) :: undef :: (.tuple #[sv [.n 6 (bx0 N.pt), .n 6 (bx1 N.pt), .n 6 (by0 N.pt), .n 6 (by1 N.pt), .b (bi N.pt)], .int .i64 0]) :: (sv [.n 6 (bx0 P.pt), .n 6 (bx1 P.pt), .n 6 (by0 P.pt), .n 6 (by1 P.pt), .b (bi P.pt)]) :: (.tuple #[sv [.n 6 (bx0 N.pt), .n 6 (bx1 N.pt), .n 6 (by0 N.pt), .n 6 (by1 N.pt), .b (bi N.pt)], .int .i64 0]) :: (sv [.n 6 (bx0 N.pt), .n 6 (bx1 N.pt), .n 6 (by0 N.pt), .n 6 (by1 N.pt), .b (bi N.pt)]) :: (.int .i64 0) :: (.tuple #[sv [.n 6 (bx0 B.pt), .n 6 (bx1 B.pt), .n 6 (by0 B.pt), .n 6 (by1 B.pt), .b (bi B.pt)], .int .i64 0]) :: (sv [.n 6 (bx0 P.pt), .n 6 (bx1 P.pt), .n 6 (by0 P.pt), .n 6 (by1 P.pt), .b (bi P.pt)]) :: (nv 4 [k]) :: (sv [.n 6 (bx0 A.pt), .n 6 (bx1 A.pt), .n 6 (by0 A.pt), .n 6 (by1 A.pt), .b (bi A.pt)]) :: (.tuple #[sv [.n 6 (bx0 B.pt), .n 6 (bx1 B.pt), .n 6 (by0 B.pt), .n 6 (by1 B.pt), .b (bi B.pt)], .int .i64 0]) :: (sv [.n 6 (bx0 B.pt), .n 6 (bx1 B.pt), .n 6 (by0 B.pt), .n 6 (by1 B.pt), .b (bi B.pt)]) :: (.int .i64 0) :: (.int .i64 0) :: (.bool false) :: (.bool false) :: (.int .i64 0) :: (.bool false) :: (.bool false) :: (.bool false) :: (sv [.n 6 (bx0 N.pt), .n 6 (bx1 N.pt), .n 6 (by0 N.pt), .n 6 (by1 N.pt), .b (bi N.pt)]) :: (nv 4 [k]) :: (sv [.n 6 (bx0 B.pt), .n 6 (bx1 B.pt), .n 6 (by0 B.pt), .n 6 (by1 B.pt), .b (bi B.pt)]) :: (sv [.n 6 (bx0 B.pt), .n 6 (bx1 B.pt), .n 6 (by0 B.pt), .n 6 (by1 B.pt), .b (bi B.pt)]) :: (.bool false) :: (.bool false) :: (.bool false) :: (.bool true) :: (.bool false) :: (.bool false) :: undef :: undef :: undef :: undef :: undef :: undef :: undef :: undef :: undef :: undef :: undef :: undef :: undef :: undef :: undef :: []), []⟩) 0 (fun _ => 0) (fun _ => 0) (fun _ => 0) (fun _ => []) (fun _ => []) [25, 26, 27, 28, 29, 30, 31, 32, 33, 34, 35, 36, 37, 38, 39, 40, 41] (.inl ⟨rfl, by kernel_rfl⟩) (by kernel_rfl) rfl rfl rfl ?_ ?_)
  · refine GSteps.cons (gm_val (v := .int .i64 0) rfl (fun _ => rfl) (fun _ => rfl) (fun γ w h => ex_move _) rfl) ?_
    refine GSteps.cons (gm_val (v := .bool false) rfl (fun _ => rfl) (fun _ => rfl) (fun γ w h => ex_neqi rfl rfl _ rfl) rfl) ?_
    refine GSteps.cons (gm_val (v := .bool false) rfl (fun _ => rfl) (fun _ => rfl) (fun γ w h => ex_move _) rfl) ?_
    refine GSteps.cons (gm_val (v := .int .i64 0) rfl (fun _ => rfl) (fun _ => rfl) (fun γ w h => ex_move _) rfl) ?_
    refine GSteps.cons (gm_val (v := .bool false) rfl (fun _ => rfl) (fun _ => rfl) (fun γ w h => ex_neqi rfl rfl _ rfl) rfl) ?_
    refine GSteps.cons (gm_val (v := .bool false) rfl (fun _ => rfl) (fun _ => rfl) (fun γ w h => ex_pick (r := false) rfl) rfl) ?_
    refine GSteps.cons (gm_val (v := .bool false) rfl (fun _ => rfl) (fun _ => rfl) (fun γ w h => ex_move _) rfl) ?_
    refine GSteps.cons (gm_val (v := sv [.n 6 (bx0 N.pt), .n 6 (bx1 N.pt), .n 6 (by0 N.pt), .n 6 (by1 N.pt), .b (bi N.pt)]) rfl (fun _ => rfl) (fun _ => rfl) (fun γ w h => ex_loads 0 5 (m := [.n 6 (bx0 N.pt), .n 6 (bx1 N.pt), .n 6 (by0 N.pt), .n 6 (by1 N.pt), .b (bi N.pt)]) flG2 rfl rfl (A17.keep h.out) rfl rfl) rfl) ?_
    refine GSteps.cons (gm_val (v := nv 4 [k]) rfl (fun _ => rfl) (fun _ => rfl) (fun γ w h => ex_loadsn (K := 4) 0 1 (m := [k]) flFr rfl rfl (A16.keep h.out) rfl rfl) rfl) ?_
    refine GSteps.cons (gm_call (v := sv [.n 6 (bx0 B.pt), .n 6 (bx1 B.pt), .n 6 (by0 B.pt), .n 6 (by1 B.pt), .b (bi B.pt)]) rfl (fun _ => rfl) (fun _ => rfl) (fun γ w => ex_call (vs := [sv [.n 6 (bx0 N.pt), .n 6 (bx1 N.pt), .n 6 (by0 N.pt), .n 6 (by1 N.pt), .b (bi N.pt)], nv 4 [k]]) rfl Tryz.call16 rfl) (fun w h => twomul_v N B k hk (by rw [hN, hB, hA, EP.times_neg]) _) rfl) ?_
    refine GSteps.cons (gm_val (v := sv [.n 6 (bx0 B.pt), .n 6 (bx1 B.pt), .n 6 (by0 B.pt), .n 6 (by1 B.pt), .b (bi B.pt)]) rfl (fun _ => rfl) (fun _ => rfl) (fun γ w h => ex_loads 0 5 (m := [.n 6 (bx0 B.pt), .n 6 (bx1 B.pt), .n 6 (by0 B.pt), .n 6 (by1 B.pt), .b (bi B.pt)]) flG2 rfl rfl (A18.keep h.out) rfl rfl) rfl) ?_
    refine GSteps.cons (gm_val (v := .bool false) rfl (fun _ => rfl) (fun _ => rfl) (fun γ w h => ex_neqs gdG2 eqG2 rfl rfl rfl (shG2_of (bx0_B B.pt) (bx1_B B.pt) (by0_B B.pt) (by1_B B.pt)) (shG2_of (bx0_B B.pt) (bx1_B B.pt) (by0_B B.pt) (by1_B B.pt)) false (by simp)) rfl) ?_
    refine GSteps.cons (gm_val (v := .bool false) rfl (fun _ => rfl) (fun _ => rfl) (fun γ w h => ex_pick (r := false) rfl) rfl) ?_
    refine GSteps.cons (gm_val (v := .bool false) rfl (fun _ => rfl) (fun _ => rfl) (fun γ w h => ex_move _) rfl) ?_
    refine GSteps.cons (gm_call (v := .bool true) rfl (fun _ => rfl) (fun _ => rfl) (fun γ w => ex_call (vs := []) rfl Tryz.call11 rfl) (fun w h => twoalive_v _) rfl) ?_
    refine GSteps.cons (gm_val (v := .bool false) rfl (fun _ => rfl) (fun _ => rfl) (fun γ w h => ex_not (r := true) rfl) rfl) ?_
    refine GSteps.cons (gm_val (v := .bool false) rfl (fun _ => rfl) (fun _ => rfl) (fun γ w h => ex_pick (r := false) rfl) rfl) ?_
    exact GSteps.nil
  intro _ w20 hb20 _ _
  refine th_r ?_
  have A21 := A15.keep hb20.out
  have A22 := A16.keep hb20.out
  have A23 := A17.keep hb20.out
  have A24 := A18.keep hb20.out
  have HB25 := below_then HB19 hb20.out
  refine wp_cond_false rfl ?_
  refine wp_skip ?_
  refine th_r ?_
  refine wp_seq (region_m (F := fun _ => ⟨List.toArray ((sv [.n 6 (bx0 P.pt), .n 6 (bx1 P.pt), .n 6 (by0 P.pt), .n 6 (by1 P.pt), .b (bi P.pt)]) :: (nv 4 [k]) :: (.pointer (some ⟨(γ1 0), 0, none⟩)) :: (.pointer (some ⟨(γ1 1), 0, none⟩)) :: (.bool true) :: (.pointer (some ⟨(γ9 0), 0, none⟩)) :: (.int .i64 0) :: (.pointer (some ⟨(γ14 0), 0, none⟩)) :: (.int .i64 0) :: (sv [.n 6 (bx0 P.pt), .n 6 (bx1 P.pt), .n 6 (by0 P.pt), .n 6 (by1 P.pt), .b (bi P.pt)]) :: (.bool true) :: (.bool false) :: undef :: (.tuple #[sv [.n 6 (bx0 N.pt), .n 6 (bx1 N.pt), .n 6 (by0 N.pt), .n 6 (by1 N.pt), .b (bi N.pt)], .int .i64 0]) :: (sv [.n 6 (bx0 P.pt), .n 6 (bx1 P.pt), .n 6 (by0 P.pt), .n 6 (by1 P.pt), .b (bi P.pt)]) :: (.tuple #[sv [.n 6 (bx0 N.pt), .n 6 (bx1 N.pt), .n 6 (by0 N.pt), .n 6 (by1 N.pt), .b (bi N.pt)], .int .i64 0]) :: (sv [.n 6 (bx0 N.pt), .n 6 (bx1 N.pt), .n 6 (by0 N.pt), .n 6 (by1 N.pt), .b (bi N.pt)]) :: (.int .i64 0) :: (.tuple #[sv [.n 6 (bx0 B.pt), .n 6 (bx1 B.pt), .n 6 (by0 B.pt), .n 6 (by1 B.pt), .b (bi B.pt)], .int .i64 0]) :: (sv [.n 6 (bx0 P.pt), .n 6 (bx1 P.pt), .n 6 (by0 P.pt), .n 6 (by1 P.pt), .b (bi P.pt)]) :: (nv 4 [k]) :: (sv [.n 6 (bx0 A.pt), .n 6 (bx1 A.pt), .n 6 (by0 A.pt), .n 6 (by1 A.pt), .b (bi A.pt)]) :: (.tuple #[sv [.n 6 (bx0 B.pt), .n 6 (bx1 B.pt), .n 6 (by0 B.pt), .n 6 (by1 B.pt), .b (bi B.pt)], .int .i64 0]) :: (sv [.n 6 (bx0 B.pt), .n 6 (bx1 B.pt), .n 6 (by0 B.pt), .n 6 (by1 B.pt), .b (bi B.pt)]) :: (.int .i64 0) :: (.int .i64 0) :: (.bool false) :: (.bool false) :: (.int .i64 0) :: (.bool false) :: (.bool false) :: (.bool false) :: (sv [.n 6 (bx0 N.pt), .n 6 (bx1 N.pt), .n 6 (by0 N.pt), .n 6 (by1 N.pt), .b (bi N.pt)]) :: (nv 4 [k]) :: (sv [.n 6 (bx0 B.pt), .n 6 (bx1 B.pt), .n 6 (by0 B.pt), .n 6 (by1 B.pt), .b (bi B.pt)]) :: (sv [.n 6 (bx0 B.pt), .n 6 (bx1 B.pt), .n 6 (by0 B.pt), .n 6 (by1 B.pt), .b (bi B.pt)]) :: (.bool false) :: (.bool false) :: (.bool false) :: (.bool true) :: (.bool false) :: (.bool false) :: (sv [.n 6 (bx0 P.pt), .n 6 (bx1 P.pt), .n 6 (by0 P.pt), .n 6 (by1 P.pt), .b (bi P.pt)]) :: (.bool false) :: (.bool true) :: (.bool true) :: undef :: undef :: undef :: undef :: undef :: undef :: undef :: undef :: undef :: undef :: (.bool true) :: []), []⟩) 0 (fun _ => 0) (fun _ => 0) (fun _ => 0) (fun _ => []) (fun _ => []) [42, 43, 44, 45, 46, 47, 48, 49, 50, 51, 52, 53, 54, 55, 56, 4] (.inl ⟨rfl, by kernel_rfl⟩) (by kernel_rfl) rfl rfl rfl ?_ ?_)
  · refine GSteps.cons (gm_val (v := sv [.n 6 (bx0 P.pt), .n 6 (bx1 P.pt), .n 6 (by0 P.pt), .n 6 (by1 P.pt), .b (bi P.pt)]) rfl (fun _ => rfl) (fun _ => rfl) (fun γ w h => ex_loads 0 5 (m := [.n 6 (bx0 P.pt), .n 6 (bx1 P.pt), .n 6 (by0 P.pt), .n 6 (by1 P.pt), .b (bi P.pt)]) flG2 rfl rfl (A21.keep h.out) rfl rfl) rfl) ?_
    refine GSteps.cons (gm_call (v := .bool false) rfl (fun _ => rfl) (fun _ => rfl) (fun γ w => ex_call (vs := [sv [.n 6 (bx0 P.pt), .n 6 (bx1 P.pt), .n 6 (by0 P.pt), .n 6 (by1 P.pt), .b (bi P.pt)]]) rfl Tryz.call17 rfl) (fun w h => twoGroup_q P false ⟨fun e => Bool.noConfusion e, fun e => absurd e hT⟩ _) rfl) ?_
    refine GSteps.cons (gm_val (v := .bool true) rfl (fun _ => rfl) (fun _ => rfl) (fun γ w h => ex_not (r := false) rfl) rfl) ?_
    refine GSteps.cons (gm_val (v := .bool true) rfl (fun _ => rfl) (fun _ => rfl) (fun γ w h => ex_move _) rfl) ?_
    refine GSteps.cons (gm_skip rfl (fun _ => rfl) (fun _ => rfl) rfl) ?_
    refine GSteps.cons (gm_skip rfl (fun _ => rfl) (fun _ => rfl) rfl) ?_
    refine GSteps.cons (gm_skip rfl (fun _ => rfl) (fun _ => rfl) rfl) ?_
    refine GSteps.cons (gm_skip rfl (fun _ => rfl) (fun _ => rfl) rfl) ?_
    refine GSteps.cons (gm_skip rfl (fun _ => rfl) (fun _ => rfl) rfl) ?_
    refine GSteps.cons (gm_skip rfl (fun _ => rfl) (fun _ => rfl) rfl) ?_
    refine GSteps.cons (gm_skip rfl (fun _ => rfl) (fun _ => rfl) rfl) ?_
    refine GSteps.cons (gm_skip rfl (fun _ => rfl) (fun _ => rfl) rfl) ?_
    refine GSteps.cons (gm_skip rfl (fun _ => rfl) (fun _ => rfl) rfl) ?_
    refine GSteps.cons (gm_skip rfl (fun _ => rfl) (fun _ => rfl) rfl) ?_
    refine GSteps.cons (gm_val (v := .bool true) rfl (fun _ => rfl) (fun _ => rfl) (fun γ w h => ex_pick (r := true) rfl) rfl) ?_
    refine GSteps.cons (gm_val (v := .bool true) rfl (fun _ => rfl) (fun _ => rfl) (fun γ w h => ex_assign _) rfl) ?_
    exact GSteps.nil
  intro _ w26 hb26 _ _
  refine th_r ?_
  have A27 := A21.keep hb26.out
  have A28 := A22.keep hb26.out
  have A29 := A23.keep hb26.out
  have A30 := A24.keep hb26.out
  have HB31 := below_then HB25 hb26.out
  exact wp_ret (bodyPost_ret (ret1 Tryz.results6 (res_tmp rfl)) rfl ⟨rfl, HB31⟩)

theorem neg_modR2 (k : Nat) : (k + (rN - k % rN) % rN) % rN = 0 := by
  rw [Nat.add_mod, Nat.mod_mod]
  have h := frM_mod k
  generalize k % rN = r at *
  rcases Nat.eq_zero_or_pos r with rfl | hr
  · rw [Nat.sub_zero, Nat.mod_self, Nat.add_zero, Nat.zero_mod]
  · rw [Nat.mod_eq_of_lt (by omega : rN - r < rN), Nat.add_sub_of_le (Nat.le_of_lt h), Nat.mod_self]

set_option maxRecDepth 20000 in
set_option maxHeartbeats 4000000 in
theorem twoNegs_1 (P : E2) (hT : EP.times C2 rN P = EP.zero) (k : Nat) (hk : k < frB) (w : World) :
    Calls Tryz.prog 6 #[sv [.n 6 (bx0 P.pt), .n 6 (bx1 P.pt), .n 6 (by0 P.pt), .n 6 (by1 P.pt), .b (bi P.pt)], nv 4 [k]] w (Is (.bool true) w) := by
  obtain ⟨c, hc⟩ : ∃ c, c = (rN - k % rN) % rN := ⟨_, rfl⟩
  obtain ⟨N, hN⟩ : ∃ q_ : E2, q_ = P.neg := ⟨_, rfl⟩
  obtain ⟨A, hA⟩ : ∃ q_ : E2, q_ = EP.times C2 k P := ⟨_, rfl⟩
  obtain ⟨B, hB⟩ : ∃ q_ : E2, q_ = A.neg := ⟨_, rfl⟩
  obtain ⟨G, hG⟩ : ∃ q_ : E2, q_ = EP.times C2 c P := ⟨_, rfl⟩
  go_enter Tryz.func6, Tryz.ntmps6
  refine wp_seq (region_m (F := fun γ => ⟨List.toArray ((sv [.n 6 (bx0 P.pt), .n 6 (bx1 P.pt), .n 6 (by0 P.pt), .n 6 (by1 P.pt), .b (bi P.pt)]) :: (nv 4 [k]) :: (.pointer (some ⟨γ 0, 0, none⟩)) :: (.pointer (some ⟨γ 1, 0, none⟩)) :: (.bool false) :: undef :: undef :: undef :: undef :: undef :: undef :: undef :: undef :: undef :: undef :: undef :: undef :: undef :: undef :: undef :: undef :: undef :: undef :: undef :: undef :: undef :: undef :: undef :: undef :: undef :: undef :: undef :: undef :: undef :: undef :: undef :: undef :: undef :: undef :: undef :: undef :: undef :: undef :: undef :: undef :: undef :: undef :: undef :: undef :: undef :: undef :: undef :: undef :: undef :: undef :: undef :: undef :: []), []⟩) 2 (fun j_ => match j_ with | 0 => 28 | _ => 41) (fun j_ => match j_ with | 0 => 0 | _ => 1) (fun j_ => match j_ with | 0 => 0 | _ => 1) (fun j_ => match j_ with | 0 => segs [.n 6 (bx0 P.pt), .n 6 (bx1 P.pt), .n 6 (by0 P.pt), .n 6 (by1 P.pt), .b (bi P.pt)] | _ => segs [.n 4 k]) (fun j_ => match j_ with | 0 => segs [.n 6 (bx0 P.pt), .n 6 (bx1 P.pt), .n 6 (by0 P.pt), .n 6 (by1 P.pt), .b (bi P.pt)] | _ => segs [.n 4 k]) [2, 3, 4] (.inr ⟨rfl, by kernel_rfl⟩) (by kernel_rfl) rfl rfl rfl ?_ ?_)
  · refine GSteps.cons (gm_box 0 rfl (fun _ => rfl) (fun _ _ => rfl) (fun γ w h => ex_boxs (l := [.n 6 (bx0 P.pt), .n 6 (bx1 P.pt), .n 6 (by0 P.pt), .n 6 (by1 P.pt), .b (bi P.pt)]) rfl) rfl rfl rfl) ?_
    refine GSteps.cons (gm_box 1 rfl (fun _ => rfl) (fun _ _ => rfl) (fun γ w h => ex_boxsn (K := 4) (l := [k]) rfl) rfl rfl rfl) ?_
    refine GSteps.cons (gm_val (v := .bool false) rfl (fun _ => rfl) (fun _ => rfl) (fun γ w h => ex_assign _) rfl) ?_
    exact GSteps.nil
  intro γ1 w1 hb1 hB1 hn1
  refine th_r ?_
  have A2 : SB 28 w1 (γ1 0) [.n 6 (bx0 P.pt), .n 6 (bx1 P.pt), .n 6 (by0 P.pt), .n 6 (by1 P.pt), .b (bi P.pt)] := (hB1 0 (by decide)).2
  have le2 := (hB1 0 (by decide)).1
  have A3 : SB 41 w1 (γ1 1) [.n 4 k] := (hB1 1 (by decide)).2
  have le3 := (hB1 1 (by decide)).1
  have HB4 := below_then (Below.refl w.heap.size w) hb1.out
  refine wp_seq ?_
  refine wp_seq (region_m (F := fun _ => ⟨List.toArray ((sv [.n 6 (bx0 P.pt), .n 6 (bx1 P.pt), .n 6 (by0 P.pt), .n 6 (by1 P.pt), .b (bi P.pt)]) :: (nv 4 [k]) :: (.pointer (some ⟨(γ1 0), 0, none⟩)) :: (.pointer (some ⟨(γ1 1), 0, none⟩)) :: (.bool false) :: undef :: undef :: undef :: undef :: (sv [.n 6 (bx0 P.pt), .n 6 (bx1 P.pt), .n 6 (by0 P.pt), .n 6 (by1 P.pt), .b (bi P.pt)]) :: (.bool true) :: (.bool false) :: undef :: undef :: undef :: undef :: undef :: undef :: undef :: undef :: undef :: undef :: undef :: undef :: undef :: undef :: undef :: undef :: undef :: undef :: undef :: undef :: undef :: undef :: undef :: undef :: undef :: undef :: undef :: undef :: undef :: undef :: undef :: undef :: undef :: undef :: undef :: undef :: undef :: undef :: undef :: undef :: undef :: undef :: undef :: undef :: undef :: []), []⟩) 0 (fun _ => 0) (fun _ => 0) (fun _ => 0) (fun _ => []) (fun _ => []) [9, 10, 11] (.inr ⟨rfl, by kernel_rfl⟩) (by kernel_rfl) rfl rfl rfl ?_ ?_)
  · refine GSteps.cons (gm_val (v := sv [.n 6 (bx0 P.pt), .n 6 (bx1 P.pt), .n 6 (by0 P.pt), .n 6 (by1 P.pt), .b (bi P.pt)]) rfl (fun _ => rfl) (fun _ => rfl) (fun γ w h => ex_loads 0 5 (m := [.n 6 (bx0 P.pt), .n 6 (bx1 P.pt), .n 6 (by0 P.pt), .n 6 (by1 P.pt), .b (bi P.pt)]) flG2 rfl rfl (A2.keep h.out) rfl rfl) rfl) ?_
    refine GSteps.cons (gm_call (v := .bool true) rfl (fun _ => rfl) (fun _ => rfl) (fun γ w => ex_call (vs := [sv [.n 6 (bx0 P.pt), .n 6 (bx1 P.pt), .n 6 (by0 P.pt), .n 6 (by1 P.pt), .b (bi P.pt)]]) rfl Tryz.call9 rfl) (fun w h => r9Right_p P _) rfl) ?_
    refine GSteps.cons (gm_val (v := .bool false) rfl (fun _ => rfl) (fun _ => rfl) (fun γ w h => ex_not (r := true) rfl) rfl) ?_
    exact GSteps.nil
  intro _ w5 hb5 _ _
  refine th_r ?_
  have A6 := A2.keep hb5.out
  have A7 := A3.keep hb5.out
  have HB8 := below_then HB4 hb5.out
  refine wp_cond_false rfl ?_
  refine wp_skip ?_
  refine th_r ?_
  refine wp_seq (region_m (F := fun γ => ⟨List.toArray ((sv [.n 6 (bx0 P.pt), .n 6 (bx1 P.pt), .n 6 (by0 P.pt), .n 6 (by1 P.pt), .b (bi P.pt)]) :: (nv 4 [k]) :: (.pointer (some ⟨(γ1 0), 0, none⟩)) :: (.pointer (some ⟨(γ1 1), 0, none⟩)) :: (.bool false) :: (.pointer (some ⟨γ 0, 0, none⟩)) :: (.int .i64 0) :: undef :: undef :: (sv [.n 6 (bx0 P.pt), .n 6 (bx1 P.pt), .n 6 (by0 P.pt), .n 6 (by1 P.pt), .b (bi P.pt)]) :: (.bool true) :: (.bool false) :: undef :: (.tuple #[sv [.n 6 (bx0 N.pt), .n 6 (bx1 N.pt), .n 6 (by0 N.pt), .n 6 (by1 N.pt), .b (bi N.pt)], .int .i64 0]) :: (sv [.n 6 (bx0 P.pt), .n 6 (bx1 P.pt), .n 6 (by0 P.pt), .n 6 (by1 P.pt), .b (bi P.pt)]) :: (.tuple #[sv [.n 6 (bx0 N.pt), .n 6 (bx1 N.pt), .n 6 (by0 N.pt), .n 6 (by1 N.pt), .b (bi N.pt)], .int .i64 0]) :: (sv [.n 6 (bx0 N.pt), .n 6 (bx1 N.pt), .n 6 (by0 N.pt), .n 6 (by1 N.pt), .b (bi N.pt)]) :: (.int .i64 0) :: undef :: undef :: undef :: undef :: undef :: undef :: undef :: undef :: undef :: undef :: undef :: undef :: undef :: undef :: undef :: undef :: undef :: undef :: undef :: undef :: undef :: undef :: undef :: undef :: undef :: undef :: undef :: undef :: undef :: undef :: undef :: undef :: undef :: undef :: undef :: undef :: undef :: undef :: undef :: []), []⟩) 1 (fun _ => 28) (fun _ => 5) (fun _ => 6) (fun _ => segs [.n 6 0, .n 6 0, .n 6 0, .n 6 0, .b false]) (fun _ => segs [.n 6 (bx0 N.pt), .n 6 (bx1 N.pt), .n 6 (by0 N.pt), .n 6 (by1 N.pt), .b (bi N.pt)]) [14, 15, 13, 16, 17, 5, 6] (.inr ⟨rfl, by kernel_rfl⟩) (by kernel_rfl) rfl rfl rfl ?_ ?_)
  · refine GSteps.cons (gm_val (v := sv [.n 6 (bx0 P.pt), .n 6 (bx1 P.pt), .n 6 (by0 P.pt), .n 6 (by1 P.pt), .b (bi P.pt)]) rfl (fun _ => rfl) (fun _ => rfl) (fun γ w h => ex_loads 0 5 (m := [.n 6 (bx0 P.pt), .n 6 (bx1 P.pt), .n 6 (by0 P.pt), .n 6 (by1 P.pt), .b (bi P.pt)]) flG2 rfl rfl (A6.keep h.out) rfl rfl) rfl) ?_
    refine GSteps.cons (gm_call (v := .tuple #[sv [.n 6 (bx0 N.pt), .n 6 (bx1 N.pt), .n 6 (by0 N.pt), .n 6 (by1 N.pt), .b (bi N.pt)], .int .i64 0]) rfl (fun _ => rfl) (fun _ => rfl) (fun γ w => ex_call (vs := [sv [.n 6 (bx0 P.pt), .n 6 (bx1 P.pt), .n 6 (by0 P.pt), .n 6 (by1 P.pt), .b (bi P.pt)]]) rfl Tryz.call8 rfl) (fun w h => twoNeg_q P N hN.symm _) rfl) ?_
    refine GSteps.cons (gm_val (v := .tuple #[sv [.n 6 (bx0 N.pt), .n 6 (bx1 N.pt), .n 6 (by0 N.pt), .n 6 (by1 N.pt), .b (bi N.pt)], .int .i64 0]) rfl (fun _ => rfl) (fun _ => rfl) (fun γ w h => ex_move _) rfl) ?_
    refine GSteps.cons (gm_val (v := sv [.n 6 (bx0 N.pt), .n 6 (bx1 N.pt), .n 6 (by0 N.pt), .n 6 (by1 N.pt), .b (bi N.pt)]) rfl (fun _ => rfl) (fun _ => rfl) (fun γ w h => ex_extract (vs := [sv [.n 6 (bx0 N.pt), .n 6 (bx1 N.pt), .n 6 (by0 N.pt), .n 6 (by1 N.pt), .b (bi N.pt)], .int .i64 0]) rfl rfl) rfl) ?_
    refine GSteps.cons (gm_val (v := .int .i64 0) rfl (fun _ => rfl) (fun _ => rfl) (fun γ w h => ex_extract (vs := [sv [.n 6 (bx0 N.pt), .n 6 (bx1 N.pt), .n 6 (by0 N.pt), .n 6 (by1 N.pt), .b (bi N.pt)], .int .i64 0]) rfl rfl) rfl) ?_
    refine GSteps.cons (gm_new 0 rfl (fun _ => rfl) (fun _ _ => rfl) (fun γ w => ex_allocs (l := [.n 6 0, .n 6 0, .n 6 0, .n 6 0, .b false]) zG2) rfl (by kernel_rfl)) ?_
    refine GSteps.cons (gm_store 0 rfl rfl (fun _ => rfl) (len_segs (l := [.n 6 (bx0 N.pt), .n 6 (bx1 N.pt), .n 6 (by0 N.pt), .n 6 (by1 N.pt), .b (bi N.pt)]) (l' := [.n 6 0, .n 6 0, .n 6 0, .n 6 0, .b false]) rfl) (fun γ w h => ex_stores 0 5 (l := [.n 6 0, .n 6 0, .n 6 0, .n 6 0, .b false]) (m := [.n 6 (bx0 N.pt), .n 6 (bx1 N.pt), .n 6 (by0 N.pt), .n 6 (by1 N.pt), .b (bi N.pt)]) flG2.2 rfl rfl rfl rfl h rfl rfl) rfl rfl (by kernel_rfl)) ?_
    refine GSteps.cons (gm_val (v := .int .i64 0) rfl (fun _ => rfl) (fun _ => rfl) (fun γ w h => ex_assign _) rfl) ?_
    exact GSteps.nil
  intro γ9 w9 hb9 hB9 _
  refine th_r ?_
  have A10 := A6.keep hb9.out
  have A11 := A7.keep hb9.out
  have A12 : SB 28 w9 (γ9 0) [.n 6 (bx0 N.pt), .n 6 (bx1 N.pt), .n 6 (by0 N.pt), .n 6 (by1 N.pt), .b (bi N.pt)] := (hB9 0 (by decide)).2
  have le12 := (hB9 0 (by decide)).1
  have HB13 := below_then HB8 hb9.out
  refine wp_seq (region_m (F := fun γ => ⟨List.toArray ((sv [.n 6 (bx0 P.pt), .n 6 (bx1 P.pt), .n 6 (by0 P.pt), .n 6 (by1 P.pt), .b (bi P.pt)]) :: (nv 4 [k]) :: (.pointer (some ⟨(γ1 0), 0, none⟩)) :: (.pointer (some ⟨(γ1 1), 0, none⟩)) :: (.bool false) :: (.pointer (some ⟨(γ9 0), 0, none⟩)) :: (.int .i64 0) :: (.pointer (some ⟨γ 0, 0, none⟩)) :: (.int .i64 0) :: (sv [.n 6 (bx0 P.pt), .n 6 (bx1 P.pt), .n 6 (by0 P.pt), .n 6 (by1 P.pt), .b (bi P.pt)]) :: (.bool true) :: (.bool false) :: undef :: (.tuple #[sv [.n 6 (bx0 N.pt), .n 6 (bx1 N.pt), .n 6 (by0 N.pt), .n 6 (by1 N.pt), .b (bi N.pt)], .int .i64 0]) :: (sv [.n 6 (bx0 P.pt), .n 6 (bx1 P.pt), .n 6 (by0 P.pt), .n 6 (by1 P.pt), .b (bi P.pt)]) :: (.tuple #[sv [.n 6 (bx0 N.pt), .n 6 (bx1 N.pt), .n 6 (by0 N.pt), .n 6 (by1 N.pt), .b (bi N.pt)], .int .i64 0]) :: (sv [.n 6 (bx0 N.pt), .n 6 (bx1 N.pt), .n 6 (by0 N.pt), .n 6 (by1 N.pt), .b (bi N.pt)]) :: (.int .i64 0) :: (.tuple #[sv [.n 6 (bx0 B.pt), .n 6 (bx1 B.pt), .n 6 (by0 B.pt), .n 6 (by1 B.pt), .b (bi B.pt)], .int .i64 0]) :: (sv [.n 6 (bx0 P.pt), .n 6 (bx1 P.pt), .n 6 (by0 P.pt), .n 6 (by1 P.pt), .b (bi P.pt)]) :: (nv 4 [k]) :: (sv [.n 6 (bx0 A.pt), .n 6 (bx1 A.pt), .n 6 (by0 A.pt), .n 6 (by1 A.pt), .b (bi A.pt)]) :: (.tuple #[sv [.n 6 (bx0 B.pt), .n 6 (bx1 B.pt), .n 6 (by0 B.pt), .n 6 (by1 B.pt), .b (bi B.pt)], .int .i64 0]) :: (sv [.n 6 (bx0 B.pt), .n 6 (bx1 B.pt), .n 6 (by0 B.pt), .n 6 (by1 B.pt), .b (bi B.pt)]) :: (.int .i64 0) :: undef :: undef :: undef :: undef :: undef :: undef :: undef :: undef :: undef :: undef :: undef :: undef :: undef :: undef :: undef :: undef :: undef :: undef :: undef :: undef :: undef :: undef :: undef :: undef :: undef :: undef :: undef :: undef :: undef :: undef :: undef :: undef :: []), []⟩) 1 (fun _ => 28) (fun _ => 7) (fun _ => 8) (fun _ => segs [.n 6 0, .n 6 0, .n 6 0, .n 6 0, .b false]) (fun _ => segs [.n 6 (bx0 B.pt), .n 6 (bx1 B.pt), .n 6 (by0 B.pt), .n 6 (by1 B.pt), .b (bi B.pt)]) [19, 20, 21, 22, 18, 23, 24, 7, 8] (.inr ⟨rfl, by kernel_rfl⟩) (by kernel_rfl) rfl rfl rfl ?_ ?_)
  · refine GSteps.cons (gm_val (v := sv [.n 6 (bx0 P.pt), .n 6 (bx1 P.pt), .n 6 (by0 P.pt), .n 6 (by1 P.pt), .b (bi P.pt)]) rfl (fun _ => rfl) (fun _ => rfl) (fun γ w h => ex_loads 0 5 (m := [.n 6 (bx0 P.pt), .n 6 (bx1 P.pt), .n 6 (by0 P.pt), .n 6 (by1 P.pt), .b (bi P.pt)]) flG2 rfl rfl (A10.keep h.out) rfl rfl) rfl) ?_
    refine GSteps.cons (gm_val (v := nv 4 [k]) rfl (fun _ => rfl) (fun _ => rfl) (fun γ w h => ex_loadsn (K := 4) 0 1 (m := [k]) flFr rfl rfl (A11.keep h.out) rfl rfl) rfl) ?_
    refine GSteps.cons (gm_call (v := sv [.n 6 (bx0 A.pt), .n 6 (bx1 A.pt), .n 6 (by0 A.pt), .n 6 (by1 A.pt), .b (bi A.pt)]) rfl (fun _ => rfl) (fun _ => rfl) (fun γ w => ex_call (vs := [sv [.n 6 (bx0 P.pt), .n 6 (bx1 P.pt), .n 6 (by0 P.pt), .n 6 (by1 P.pt), .b (bi P.pt)], nv 4 [k]]) rfl Tryz.call16 rfl) (fun w h => twomul_v P A k hk hA.symm _) rfl) ?_
    refine GSteps.cons (gm_call (v := .tuple #[sv [.n 6 (bx0 B.pt), .n 6 (bx1 B.pt), .n 6 (by0 B.pt), .n 6 (by1 B.pt), .b (bi B.pt)], .int .i64 0]) rfl (fun _ => rfl) (fun _ => rfl) (fun γ w => ex_call (vs := [sv [.n 6 (bx0 A.pt), .n 6 (bx1 A.pt), .n 6 (by0 A.pt), .n 6 (by1 A.pt), .b (bi A.pt)]]) rfl Tryz.call8 rfl) (fun w h => twoNeg_q A B hB.symm _) rfl) ?_
    refine GSteps.cons (gm_val (v := .tuple #[sv [.n 6 (bx0 B.pt), .n 6 (bx1 B.pt), .n 6 (by0 B.pt), .n 6 (by1 B.pt), .b (bi B.pt)], .int .i64 0]) rfl (fun _ => rfl) (fun _ => rfl) (fun γ w h => ex_move _) rfl) ?_
    refine GSteps.cons (gm_val (v := sv [.n 6 (bx0 B.pt), .n 6 (bx1 B.pt), .n 6 (by0 B.pt), .n 6 (by1 B.pt), .b (bi B.pt)]) rfl (fun _ => rfl) (fun _ => rfl) (fun γ w h => ex_extract (vs := [sv [.n 6 (bx0 B.pt), .n 6 (bx1 B.pt), .n 6 (by0 B.pt), .n 6 (by1 B.pt), .b (bi B.pt)], .int .i64 0]) rfl rfl) rfl) ?_
    refine GSteps.cons (gm_val (v := .int .i64 0) rfl (fun _ => rfl) (fun _ => rfl) (fun γ w h => ex_extract (vs := [sv [.n 6 (bx0 B.pt), .n 6 (bx1 B.pt), .n 6 (by0 B.pt), .n 6 (by1 B.pt), .b (bi B.pt)], .int .i64 0]) rfl rfl) rfl) ?_
    refine GSteps.cons (gm_new 0 rfl (fun _ => rfl) (fun _ _ => rfl) (fun γ w => ex_allocs (l := [.n 6 0, .n 6 0, .n 6 0, .n 6 0, .b false]) zG2) rfl (by kernel_rfl)) ?_
    refine GSteps.cons (gm_store 0 rfl rfl (fun _ => rfl) (len_segs (l := [.n 6 (bx0 B.pt), .n 6 (bx1 B.pt), .n 6 (by0 B.pt), .n 6 (by1 B.pt), .b (bi B.pt)]) (l' := [.n 6 0, .n 6 0, .n 6 0, .n 6 0, .b false]) rfl) (fun γ w h => ex_stores 0 5 (l := [.n 6 0, .n 6 0, .n 6 0, .n 6 0, .b false]) (m := [.n 6 (bx0 B.pt), .n 6 (bx1 B.pt), .n 6 (by0 B.pt), .n 6 (by1 B.pt), .b (bi B.pt)]) flG2.2 rfl rfl rfl rfl h rfl rfl) rfl rfl (by kernel_rfl)) ?_
    refine GSteps.cons (gm_val (v := .int .i64 0) rfl (fun _ => rfl) (fun _ => rfl) (fun γ w h => ex_assign _) rfl) ?_
    exact GSteps.nil
  intro γ14 w14 hb14 hB14 _
  refine th_r ?_
  have A15 := A10.keep hb14.out
  have A16 := A11.keep hb14.out
  have A17 := A12.keep hb14.out
  have A18 : SB 28 w14 (γ14 0) [.n 6 (bx0 B.pt), .n 6 (bx1 B.pt), .n 6 (by0 B.pt), .n 6 (by1 B.pt), .b (bi B.pt)] := (hB14 0 (by decide)).2
  have le18 := (hB14 0 (by decide)).1
  have HB19 := below_then HB13 hb14.out
  refine wp_seq ?_
  refine wp_seq (region_m (F := fun _ => ⟨List.toArray ((sv [.n 6 (bx0 P.pt), .n 6 (bx1 P.pt), .n 6 (by0 P.pt), .n 6 (by1 P.pt), .b (bi P.pt)]) :: (nv 4 [k]) :: (.pointer (some ⟨(γ1 0), 0, none⟩)) :: (.pointer (some ⟨(γ1 1), 0, none⟩)) :: (.bool false) :: (.pointer (some ⟨(γ9 0), 0, none⟩)) :: (.int .i64 0) :: (.pointer (some ⟨(γ14 0), 0, none⟩)) :: (.int .i64 0) :: (sv [.n 6 (bx0 P.pt), .n 6 (bx1 P.pt), .n 6 (by0 P.pt), .n 6 (by1 P.pt), .b (bi P.pt)]) :: (.bool true) :: (.bool false) :: undef :: (.tuple #[sv [.n 6 (bx0 N.pt), .n 6 (bx1 N.pt), .n 6 (by0 N.pt), .n 6 (by1 N.pt), .b (bi N.pt)], .int .i64 0]) :: (sv [.n 6 (bx0 P.pt), .n 6 (bx1 P.pt), .n 6 (by0 P.pt), .n 6 (by1 P.pt), .b (bi P.pt)]) :: (.tuple #[sv [.n 6 (bx0 N.pt), .n 6 (bx1 N.pt), .n 6 (by0 N.pt), .n 6 (by1 N.pt), .b (bi N.pt)], .int .i64 0]) :: (sv [.n 6 (bx0 N.pt), .n 6 (bx1 N.pt), .n 6 (by0 N.pt), .n 6 (by1 N.pt), .b (bi N.pt)]) :: (.int .i64 0) :: (.tuple #[sv [.n 6 (bx0 B.pt), .n 6 (bx1 B.pt), .n 6 (by0 B.pt), .n 6 (by1 B.pt), .b (bi B.pt)], .int .i64 0]) :: (sv [.n 6 (bx0 P.pt), .n 6 (bx1 P.pt), .n 6 (by0 P.pt), .n 6 (by1 P.pt), .b (bi P.pt)]) :: (nv 4 [k]) :: (sv [.n 6 (bx0 A.pt), .n 6 (bx1 A.pt), .n 6 (by0 A.pt), .n 6 (by1 A.pt), .b (bi A.pt)]) :: (.tuple #[sv [.n 6 (bx0 B.pt), .n 6 (bx1 B.pt), .n 6 (by0 B.pt), .n 6 (by1 B.pt), .b (bi B.pt)], .int .i64 0]) :: (sv [.n 6 (bx0 B.pt), .n 6 (bx1 B.pt), .n 6 (by0 B.pt), .n 6 (by1 B.pt), .b (bi B.pt)]) :: (.int .i64 0) :: (.int .i64 0) :: (.bool false) :: (.bool false) :: (.int .i64 0) :: (.bool false) :: (.bool false) :: (.bool false) :: (sv [.n 6 (bx0 N.pt), .n 6 (bx1 N.pt), .n 6 (by0 N.pt), .n 6 (by1 N.pt), .b (bi N.pt)]) :: (nv 4 [k]) :: (sv [.n 6 (bx0 B.pt), .n 6 (bx1 B.pt), .n 6 (by0 B.pt), .n 6 (by1 B.pt), .b (bi B.pt)]) :: (sv [.n 6 (bx0 B.pt), .n 6 (bx1 B.pt), .n 6 (by0 B.pt), .n 6 (by1 B.pt), .b (bi B.pt)]) :: (.bool false) :: (.bool false) :: (.bool false) :: (.bool true) :: (.bool false) :: (.bool false) :: undef :: undef :: undef :: undef :: undef :: undef :: undef :: undef :: undef :: undef :: undef :: undef :: undef :: undef :: undef :: []), []⟩) 0 (fun _ => 0) (fun _ => 0) (fun _ => 0) (fun _ => []) (fun _ => []) [25, 26, 27, 28, 29, 30, 31, 32, 33, 34, 35, 36, 37, 38, 39, 40, 41] (.inl ⟨rfl, by kernel_rfl⟩) (by kernel_rfl) rfl rfl rfl ?_ ?_)
  · refine GSteps.cons (gm_val (v := .int .i64 0) rfl (fun _ => rfl) (fun _ => rfl) (fun γ w h => ex_move _) rfl) ?_
    refine GSteps.cons (gm_val (v := .bool false) rfl (fun _ => rfl) (fun _ => rfl) (fun γ w h => ex_neqi rfl rfl _ rfl) rfl) ?_
    refine GSteps.cons (gm_val (v := .bool false) rfl (fun _ => rfl) (fun _ => rfl) (fun γ w h => ex_move _) rfl) ?_
    refine GSteps.cons (gm_val (v := .int .i64 0) rfl (fun _ => rfl) (fun _ => rfl) (fun γ w h => ex_move _) rfl) ?_
    refine GSteps.cons (gm_val (v := .bool false) rfl (fun _ => rfl) (fun _ => rfl) (fun γ w h => ex_neqi rfl rfl _ rfl) rfl) ?_
    refine GSteps.cons (gm_val (v := .bool false) rfl (fun _ => rfl) (fun _ => rfl) (fun γ w h => ex_pick (r := false) rfl) rfl) ?_
    refine GSteps.cons (gm_val (v := .bool false) rfl (fun _ => rfl) (fun _ => rfl) (fun γ w h => ex_move _) rfl) ?_
    refine GSteps.cons (gm_val (v := sv [.n 6 (bx0 N.pt), .n 6 (bx1 N.pt), .n 6 (by0 N.pt), .n 6 (by1 N.pt), .b (bi N.pt)]) rfl (fun _ => rfl) (fun _ => rfl) (fun γ w h => ex_loads 0 5 (m := [.n 6 (bx0 N.pt), .n 6 (bx1 N.pt), .n 6 (by0 N.pt), .n 6 (by1 N.pt), .b (bi N.pt)]) flG2 rfl rfl (A17.keep h.out) rfl rfl) rfl) ?_
    refine GSteps.cons (gm_val (v := nv 4 [k]) rfl (fun _ => rfl) (fun _ => rfl) (fun γ w h => ex_loadsn (K := 4) 0 1 (m := [k]) flFr rfl rfl (A16.keep h.out) rfl rfl) rfl) ?_
    refine GSteps.cons (gm_call (v := sv [.n 6 (bx0 B.pt), .n 6 (bx1 B.pt), .n 6 (by0 B.pt), .n 6 (by1 B.pt), .b (bi B.pt)]) rfl (fun _ => rfl) (fun _ => rfl) (fun γ w => ex_call (vs := [sv [.n 6 (bx0 N.pt), .n 6 (bx1 N.pt), .n 6 (by0 N.pt), .n 6 (by1 N.pt), .b (bi N.pt)], nv 4 [k]]) rfl Tryz.call16 rfl) (fun w h => twomul_v N B k hk (by rw [hN, hB, hA, EP.times_neg]) _) rfl) ?_
    refine GSteps.cons (gm_val (v := sv [.n 6 (bx0 B.pt), .n 6 (bx1 B.pt), .n 6 (by0 B.pt), .n 6 (by1 B.pt), .b (bi B.pt)]) rfl (fun _ => rfl) (fun _ => rfl) (fun γ w h => ex_loads 0 5 (m := [.n 6 (bx0 B.pt), .n 6 (bx1 B.pt), .n 6 (by0 B.pt), .n 6 (by1 B.pt), .b (bi B.pt)]) flG2 rfl rfl (A18.keep h.out) rfl rfl) rfl) ?_
    refine GSteps.cons (gm_val (v := .bool false) rfl (fun _ => rfl) (fun _ => rfl) (fun γ w h => ex_neqs gdG2 eqG2 rfl rfl rfl (shG2_of (bx0_B B.pt) (bx1_B B.pt) (by0_B B.pt) (by1_B B.pt)) (shG2_of (bx0_B B.pt) (bx1_B B.pt) (by0_B B.pt) (by1_B B.pt)) false (by simp)) rfl) ?_
    refine GSteps.cons (gm_val (v := .bool false) rfl (fun _ => rfl) (fun _ => rfl) (fun γ w h => ex_pick (r := false) rfl) rfl) ?_
    refine GSteps.cons (gm_val (v := .bool false) rfl (fun _ => rfl) (fun _ => rfl) (fun γ w h => ex_move _) rfl) ?_
    refine GSteps.cons (gm_call (v := .bool true) rfl (fun _ => rfl) (fun _ => rfl) (fun γ w => ex_call (vs := []) rfl Tryz.call11 rfl) (fun w h => twoalive_v _) rfl) ?_
    refine GSteps.cons (gm_val (v := .bool false) rfl (fun _ => rfl) (fun _ => rfl) (fun γ w h => ex_not (r := true) rfl) rfl) ?_
    refine GSteps.cons (gm_val (v := .bool false) rfl (fun _ => rfl) (fun _ => rfl) (fun γ w h => ex_pick (r := false) rfl) rfl) ?_
    exact GSteps.nil
  intro _ w20 hb20 _ _
  refine th_r ?_
  have A21 := A15.keep hb20.out
  have A22 := A16.keep hb20.out
  have A23 := A17.keep hb20.out
  have A24 := A18.keep hb20.out
  have HB25 := below_then HB19 hb20.out
  refine wp_cond_false rfl ?_
  refine wp_skip ?_
  refine th_r ?_
  refine wp_seq (region_m (F := fun _ => ⟨List.toArray ((sv [.n 6 (bx0 P.pt), .n 6 (bx1 P.pt), .n 6 (by0 P.pt), .n 6 (by1 P.pt), .b (bi P.pt)]) :: (nv 4 [k]) :: (.pointer (some ⟨(γ1 0), 0, none⟩)) :: (.pointer (some ⟨(γ1 1), 0, none⟩)) :: (.bool true) :: (.pointer (some ⟨(γ9 0), 0, none⟩)) :: (.int .i64 0) :: (.pointer (some ⟨(γ14 0), 0, none⟩)) :: (.int .i64 0) :: (sv [.n 6 (bx0 P.pt), .n 6 (bx1 P.pt), .n 6 (by0 P.pt), .n 6 (by1 P.pt), .b (bi P.pt)]) :: (.bool true) :: (.bool false) :: undef :: (.tuple #[sv [.n 6 (bx0 N.pt), .n 6 (bx1 N.pt), .n 6 (by0 N.pt), .n 6 (by1 N.pt), .b (bi N.pt)], .int .i64 0]) :: (sv [.n 6 (bx0 P.pt), .n 6 (bx1 P.pt), .n 6 (by0 P.pt), .n 6 (by1 P.pt), .b (bi P.pt)]) :: (.tuple #[sv [.n 6 (bx0 N.pt), .n 6 (bx1 N.pt), .n 6 (by0 N.pt), .n 6 (by1 N.pt), .b (bi N.pt)], .int .i64 0]) :: (sv [.n 6 (bx0 N.pt), .n 6 (bx1 N.pt), .n 6 (by0 N.pt), .n 6 (by1 N.pt), .b (bi N.pt)]) :: (.int .i64 0) :: (.tuple #[sv [.n 6 (bx0 B.pt), .n 6 (bx1 B.pt), .n 6 (by0 B.pt), .n 6 (by1 B.pt), .b (bi B.pt)], .int .i64 0]) :: (sv [.n 6 (bx0 P.pt), .n 6 (bx1 P.pt), .n 6 (by0 P.pt), .n 6 (by1 P.pt), .b (bi P.pt)]) :: (nv 4 [k]) :: (sv [.n 6 (bx0 A.pt), .n 6 (bx1 A.pt), .n 6 (by0 A.pt), .n 6 (by1 A.pt), .b (bi A.pt)]) :: (.tuple #[sv [.n 6 (bx0 B.pt), .n 6 (bx1 B.pt), .n 6 (by0 B.pt), .n 6 (by1 B.pt), .b (bi B.pt)], .int .i64 0]) :: (sv [.n 6 (bx0 B.pt), .n 6 (bx1 B.pt), .n 6 (by0 B.pt), .n 6 (by1 B.pt), .b (bi B.pt)]) :: (.int .i64 0) :: (.int .i64 0) :: (.bool false) :: (.bool false) :: (.int .i64 0) :: (.bool false) :: (.bool false) :: (.bool false) :: (sv [.n 6 (bx0 N.pt), .n 6 (bx1 N.pt), .n 6 (by0 N.pt), .n 6 (by1 N.pt), .b (bi N.pt)]) :: (nv 4 [k]) :: (sv [.n 6 (bx0 B.pt), .n 6 (bx1 B.pt), .n 6 (by0 B.pt), .n 6 (by1 B.pt), .b (bi B.pt)]) :: (sv [.n 6 (bx0 B.pt), .n 6 (bx1 B.pt), .n 6 (by0 B.pt), .n 6 (by1 B.pt), .b (bi B.pt)]) :: (.bool false) :: (.bool false) :: (.bool false) :: (.bool true) :: (.bool false) :: (.bool false) :: (sv [.n 6 (bx0 P.pt), .n 6 (bx1 P.pt), .n 6 (by0 P.pt), .n 6 (by1 P.pt), .b (bi P.pt)]) :: (.bool true) :: (.bool false) :: (.bool false) :: (sv [.n 6 (bx0 P.pt), .n 6 (bx1 P.pt), .n 6 (by0 P.pt), .n 6 (by1 P.pt), .b (bi P.pt)]) :: (nv 4 [k]) :: (sv [.n 6 (bx0 A.pt), .n 6 (bx1 A.pt), .n 6 (by0 A.pt), .n 6 (by1 A.pt), .b (bi A.pt)]) :: (sv [.n 6 (bx0 P.pt), .n 6 (bx1 P.pt), .n 6 (by0 P.pt), .n 6 (by1 P.pt), .b (bi P.pt)]) :: (nv 4 [k]) :: (nv 4 [c]) :: (sv [.n 6 (bx0 G.pt), .n 6 (bx1 G.pt), .n 6 (by0 G.pt), .n 6 (by1 G.pt), .b (bi G.pt)]) :: (sv [.n 6 (bx0 Z2.pt), .n 6 (bx1 Z2.pt), .n 6 (by0 Z2.pt), .n 6 (by1 Z2.pt), .b (bi Z2.pt)]) :: (sv [.n 6 (bx0 Z2.pt), .n 6 (bx1 Z2.pt), .n 6 (by0 Z2.pt), .n 6 (by1 Z2.pt), .b (bi Z2.pt)]) :: (.bool true) :: (.bool true) :: []), []⟩) 0 (fun _ => 0) (fun _ => 0) (fun _ => 0) (fun _ => []) (fun _ => []) [42, 43, 44, 45, 46, 47, 48, 49, 50, 51, 52, 53, 54, 55, 56, 4] (.inl ⟨rfl, by kernel_rfl⟩) (by kernel_rfl) rfl rfl rfl ?_ ?_)
  · refine GSteps.cons (gm_val (v := sv [.n 6 (bx0 P.pt), .n 6 (bx1 P.pt), .n 6 (by0 P.pt), .n 6 (by1 P.pt), .b (bi P.pt)]) rfl (fun _ => rfl) (fun _ => rfl) (fun γ w h => ex_loads 0 5 (m := [.n 6 (bx0 P.pt), .n 6 (bx1 P.pt), .n 6 (by0 P.pt), .n 6 (by1 P.pt), .b (bi P.pt)]) flG2 rfl rfl (A21.keep h.out) rfl rfl) rfl) ?_
    refine GSteps.cons (gm_call (v := .bool true) rfl (fun _ => rfl) (fun _ => rfl) (fun γ w => ex_call (vs := [sv [.n 6 (bx0 P.pt), .n 6 (bx1 P.pt), .n 6 (by0 P.pt), .n 6 (by1 P.pt), .b (bi P.pt)]]) rfl Tryz.call17 rfl) (fun w h => twoGroup_q P true ⟨fun _ => hT, fun _ => rfl⟩ _) rfl) ?_
    refine GSteps.cons (gm_val (v := .bool false) rfl (fun _ => rfl) (fun _ => rfl) (fun γ w h => ex_not (r := true) rfl) rfl) ?_
    refine GSteps.cons (gm_val (v := .bool false) rfl (fun _ => rfl) (fun _ => rfl) (fun γ w h => ex_move _) rfl) ?_
    refine GSteps.cons (gm_val (v := sv [.n 6 (bx0 P.pt), .n 6 (bx1 P.pt), .n 6 (by0 P.pt), .n 6 (by1 P.pt), .b (bi P.pt)]) rfl (fun _ => rfl) (fun _ => rfl) (fun γ w h => ex_loads 0 5 (m := [.n 6 (bx0 P.pt), .n 6 (bx1 P.pt), .n 6 (by0 P.pt), .n 6 (by1 P.pt), .b (bi P.pt)]) flG2 rfl rfl (A21.keep h.out) rfl rfl) rfl) ?_
    refine GSteps.cons (gm_val (v := nv 4 [k]) rfl (fun _ => rfl) (fun _ => rfl) (fun γ w h => ex_loadsn (K := 4) 0 1 (m := [k]) flFr rfl rfl (A22.keep h.out) rfl rfl) rfl) ?_
    refine GSteps.cons (gm_call (v := sv [.n 6 (bx0 A.pt), .n 6 (bx1 A.pt), .n 6 (by0 A.pt), .n 6 (by1 A.pt), .b (bi A.pt)]) rfl (fun _ => rfl) (fun _ => rfl) (fun γ w => ex_call (vs := [sv [.n 6 (bx0 P.pt), .n 6 (bx1 P.pt), .n 6 (by0 P.pt), .n 6 (by1 P.pt), .b (bi P.pt)], nv 4 [k]]) rfl Tryz.call16 rfl) (fun w h => twomul_v P A k hk hA.symm _) rfl) ?_
    refine GSteps.cons (gm_val (v := sv [.n 6 (bx0 P.pt), .n 6 (bx1 P.pt), .n 6 (by0 P.pt), .n 6 (by1 P.pt), .b (bi P.pt)]) rfl (fun _ => rfl) (fun _ => rfl) (fun γ w h => ex_loads 0 5 (m := [.n 6 (bx0 P.pt), .n 6 (bx1 P.pt), .n 6 (by0 P.pt), .n 6 (by1 P.pt), .b (bi P.pt)]) flG2 rfl rfl (A21.keep h.out) rfl rfl) rfl) ?_
    refine GSteps.cons (gm_val (v := nv 4 [k]) rfl (fun _ => rfl) (fun _ => rfl) (fun γ w h => ex_loadsn (K := 4) 0 1 (m := [k]) flFr rfl rfl (A22.keep h.out) rfl rfl) rfl) ?_
    refine GSteps.cons (gm_call (v := nv 4 [c]) rfl (fun _ => rfl) (fun _ => rfl) (fun γ w => ex_call (vs := [nv 4 [k]]) rfl Tryz.call22 rfl) (fun w h => frNeg_n k _ hk c hc) rfl) ?_
    refine GSteps.cons (gm_call (v := sv [.n 6 (bx0 G.pt), .n 6 (bx1 G.pt), .n 6 (by0 G.pt), .n 6 (by1 G.pt), .b (bi G.pt)]) rfl (fun _ => rfl) (fun _ => rfl) (fun γ w => ex_call (vs := [sv [.n 6 (bx0 P.pt), .n 6 (bx1 P.pt), .n 6 (by0 P.pt), .n 6 (by1 P.pt), .b (bi P.pt)], nv 4 [c]]) rfl Tryz.call16 rfl) (fun w h => twomul_v P G c (hc ▸ fr_modB2 _) hG.symm _) rfl) ?_
    refine GSteps.cons (gm_call (v := sv [.n 6 (bx0 Z2.pt), .n 6 (bx1 Z2.pt), .n 6 (by0 Z2.pt), .n 6 (by1 Z2.pt), .b (bi Z2.pt)]) rfl (fun _ => rfl) (fun _ => rfl) (fun γ w => ex_call (vs := [sv [.n 6 (bx0 A.pt), .n 6 (bx1 A.pt), .n 6 (by0 A.pt), .n 6 (by1 A.pt), .b (bi A.pt)], sv [.n 6 (bx0 G.pt), .n 6 (bx1 G.pt), .n 6 (by0 G.pt), .n 6 (by1 G.pt), .b (bi G.pt)]]) rfl Tryz.call15 rfl) (fun w h => twoadd_v A G Z2 (by rw [hA, hG, ← EP.times_add, ← EP.times_mod C2 hT, hc, neg_modR2]; rfl) _) rfl) ?_
    refine GSteps.cons (gm_call (v := sv [.n 6 (bx0 Z2.pt), .n 6 (bx1 Z2.pt), .n 6 (by0 Z2.pt), .n 6 (by1 Z2.pt), .b (bi Z2.pt)]) rfl (fun _ => rfl) (fun _ => rfl) (fun γ w => ex_call (vs := []) rfl Tryz.call14 rfl) (fun w h => twoZero_p _) rfl) ?_
    refine GSteps.cons (gm_val (v := .bool true) rfl (fun _ => rfl) (fun _ => rfl) (fun γ w h => ex_eqs gdG2 eqG2 rfl rfl rfl (shG2_of (bx0_B Z2.pt) (bx1_B Z2.pt) (by0_B Z2.pt) (by1_B Z2.pt)) (shG2_of (bx0_B Z2.pt) (bx1_B Z2.pt) (by0_B Z2.pt) (by1_B Z2.pt)) true (by simp)) rfl) ?_
    refine GSteps.cons (gm_val (v := .bool true) rfl (fun _ => rfl) (fun _ => rfl) (fun γ w h => ex_pick (r := false) rfl) rfl) ?_
    refine GSteps.cons (gm_val (v := .bool true) rfl (fun _ => rfl) (fun _ => rfl) (fun γ w h => ex_assign _) rfl) ?_
    exact GSteps.nil
  intro _ w26 hb26 _ _
  refine th_r ?_
  have A27 := A21.keep hb26.out
  have A28 := A22.keep hb26.out
  have A29 := A23.keep hb26.out
  have A30 := A24.keep hb26.out
  have HB31 := below_then HB25 hb26.out
  exact wp_ret (bodyPost_ret (ret1 Tryz.results6 (res_tmp rfl)) rfl ⟨rfl, HB31⟩)

theorem twoNegs_v (x0 : Nat) (x1 : Nat) (y0 : Nat) (y1 : Nat) (i : Bool) (hx0 : x0 < fpB) (hx1 : x1 < fpB) (hy0 : y0 < fpB) (hy1 : y1 < fpB) (k : Nat) (hk : k < frB) (w : World) :
    Calls Tryz.prog 6 #[sv [.n 6 x0, .n 6 x1, .n 6 y0, .n 6 y1, .b i], nv 4 [k]] w (Is (.bool true) w) := by
  by_cases o : RawOk2 x0 x1 y0 y1 i
  · obtain ⟨P, rfl, rfl, rfl, rfl, rfl⟩ := o
    by_cases hT : EP.times C2 rN P = EP.zero
    · exact twoNegs_1 P hT k hk w
    · exact twoNegs_0 P hT k hk w
  · exact twoNegs_n x0 x1 y0 y1 i hx0 hx1 hy0 hy1 o k w

end Go.Proofs.YtmhieifjmgcbkaaGreat

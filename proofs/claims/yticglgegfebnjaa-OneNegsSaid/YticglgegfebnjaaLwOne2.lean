/- What is proved here: the laws of package one on how often a point is taken. -/
import Derived.Test.YticglgegfebnjaaLwOne1
import Derived.Test.YticglgegfebnjaaNumFr
import Derived.Test.YticglgegfebnjaaRef1Fp
import Derived.Test.YticglgegfebnjaaFn1Fr
import Derived.Deep.RegionHeld3
namespace Go.Proofs.Yticglgegfebnjaa
open Go.RowKit Cv

theorem fr_modB (a : Nat) : a % rN < frB := Nat.lt_trans (frM_mod a) frM_lt

set_option maxRecDepth 20000 in
set_option maxHeartbeats 4000000 in
theorem oneNegs_n (x : Nat) (y : Nat) (i : Bool) (hx : x < fpB) (hy : y < fpB) (h0 : ¬ RawOk x y i) (k : Nat) (w : World) :
    Calls Try.prog 8 #[sv [.n 6 x, .n 6 y, .b i], nv 4 [k]] w (Is (.bool true) w) := by
  go_enter Try.func8, Try.ntmps8
  refine wp_seq (region_m (F := fun γ => ⟨List.toArray ((sv [.n 6 x, .n 6 y, .b i]) :: (nv 4 [k]) :: (.pointer (some ⟨γ 0, 0, none⟩)) :: (.pointer (some ⟨γ 1, 0, none⟩)) :: (.bool false) :: undef :: undef :: undef :: undef :: undef :: undef :: undef :: undef :: undef :: undef :: undef :: undef :: undef :: undef :: undef :: undef :: undef :: undef :: undef :: undef :: undef :: undef :: undef :: undef :: undef :: undef :: undef :: undef :: undef :: undef :: undef :: undef :: undef :: undef :: undef :: undef :: undef :: undef :: undef :: undef :: undef :: undef :: undef :: undef :: undef :: undef :: undef :: undef :: undef :: undef :: undef :: undef :: []), []⟩) 2 (fun j_ => match j_ with | 0 => 26 | _ => 41) (fun j_ => match j_ with | 0 => 0 | _ => 1) (fun j_ => match j_ with | 0 => 0 | _ => 1) (fun j_ => match j_ with | 0 => segs [.n 6 x, .n 6 y, .b i] | _ => segs [.n 4 k]) (fun j_ => match j_ with | 0 => segs [.n 6 x, .n 6 y, .b i] | _ => segs [.n 4 k]) [2, 3, 4] (.inr ⟨rfl, by kernel_rfl⟩) (by kernel_rfl) rfl rfl rfl ?_ ?_)
  · refine GSteps.cons (gm_box 0 rfl (fun _ => rfl) (fun _ _ => rfl) (fun γ w h => ex_boxs (l := [.n 6 x, .n 6 y, .b i]) rfl) rfl rfl rfl) ?_
    refine GSteps.cons (gm_box 1 rfl (fun _ => rfl) (fun _ _ => rfl) (fun γ w h => ex_boxsn (K := 4) (l := [k]) rfl) rfl rfl rfl) ?_
    refine GSteps.cons (gm_val (v := .bool false) rfl (fun _ => rfl) (fun _ => rfl) (fun γ w h => ex_assign _) rfl) ?_
    exact GSteps.nil
  intro γ1 w1 hb1 hB1 hn1
  refine th_r ?_
  have A2 : SB 26 w1 (γ1 0) [.n 6 x, .n 6 y, .b i] := (hB1 0 (by decide)).2
  have le2 := (hB1 0 (by decide)).1
  have A3 : SB 41 w1 (γ1 1) [.n 4 k] := (hB1 1 (by decide)).2
  have le3 := (hB1 1 (by decide)).1
  have HB4 := below_then (Below.refl w.heap.size w) hb1.out
  refine wp_seq ?_
  refine wp_seq (region_m (F := fun _ => ⟨List.toArray ((sv [.n 6 x, .n 6 y, .b i]) :: (nv 4 [k]) :: (.pointer (some ⟨(γ1 0), 0, none⟩)) :: (.pointer (some ⟨(γ1 1), 0, none⟩)) :: (.bool false) :: undef :: undef :: undef :: undef :: (sv [.n 6 x, .n 6 y, .b i]) :: (.bool false) :: (.bool true) :: undef :: undef :: undef :: undef :: undef :: undef :: undef :: undef :: undef :: undef :: undef :: undef :: undef :: undef :: undef :: undef :: undef :: undef :: undef :: undef :: undef :: undef :: undef :: undef :: undef :: undef :: undef :: undef :: undef :: undef :: undef :: undef :: undef :: undef :: undef :: undef :: undef :: undef :: undef :: undef :: undef :: undef :: undef :: undef :: undef :: []), []⟩) 0 (fun _ => 0) (fun _ => 0) (fun _ => 0) (fun _ => []) (fun _ => []) [9, 10, 11] (.inr ⟨rfl, by kernel_rfl⟩) (by kernel_rfl) rfl rfl rfl ?_ ?_)
  · refine GSteps.cons (gm_val (v := sv [.n 6 x, .n 6 y, .b i]) rfl (fun _ => rfl) (fun _ => rfl) (fun γ w h => ex_loads 0 3 (m := [.n 6 x, .n 6 y, .b i]) flG1 rfl rfl (A2.keep h.out) rfl rfl) rfl) ?_
    refine GSteps.cons (gm_call (v := .bool false) rfl (fun _ => rfl) (fun _ => rfl) (fun γ w => ex_call (vs := [sv [.n 6 x, .n 6 y, .b i]]) rfl Try.call9 rfl) (fun w h => r8Right_no hx hy h0 _) rfl) ?_
    refine GSteps.cons (gm_val (v := .bool true) rfl (fun _ => rfl) (fun _ => rfl) (fun γ w h => ex_not (r := false) rfl) rfl) ?_
    exact GSteps.nil
  intro _ w5 hb5 _ _
  refine th_r ?_
  have A6 := A2.keep hb5.out
  have A7 := A3.keep hb5.out
  have HB8 := below_then HB4 hb5.out
  refine wp_cond_true rfl ?_
  refine wp_seq (region_m (F := fun _ => ⟨List.toArray ((sv [.n 6 x, .n 6 y, .b i]) :: (nv 4 [k]) :: (.pointer (some ⟨(γ1 0), 0, none⟩)) :: (.pointer (some ⟨(γ1 1), 0, none⟩)) :: (.bool true) :: undef :: undef :: undef :: undef :: (sv [.n 6 x, .n 6 y, .b i]) :: (.bool false) :: (.bool true) :: (.bool true) :: undef :: undef :: undef :: undef :: undef :: undef :: undef :: undef :: undef :: undef :: undef :: undef :: undef :: undef :: undef :: undef :: undef :: undef :: undef :: undef :: undef :: undef :: undef :: undef :: undef :: undef :: undef :: undef :: undef :: undef :: undef :: undef :: undef :: undef :: undef :: undef :: undef :: undef :: undef :: undef :: undef :: undef :: undef :: undef :: []), []⟩) 0 (fun _ => 0) (fun _ => 0) (fun _ => 0) (fun _ => []) (fun _ => []) [12, 4] (.inr ⟨rfl, by kernel_rfl⟩) (by kernel_rfl) rfl rfl rfl ?_ ?_)
  · refine GSteps.cons (gm_call (v := .bool true) rfl (fun _ => rfl) (fun _ => rfl) (fun γ w => ex_call (vs := []) rfl Try.call10 rfl) (fun w h => onealive_v _) rfl) ?_
    refine GSteps.cons (gm_val (v := .bool true) rfl (fun _ => rfl) (fun _ => rfl) (fun γ w h => ex_assign _) rfl) ?_
    exact GSteps.nil
  intro _ w9 hb9 _ _
  refine th_r ?_
  have A10 := A6.keep hb9.out
  have A11 := A7.keep hb9.out
  have HB12 := below_then HB8 hb9.out
  exact wp_ret (th_ret (bodyPost_ret (ret1 Try.results8 (res_tmp rfl)) rfl ⟨rfl, HB12⟩))

set_option maxRecDepth 20000 in
set_option maxHeartbeats 4000000 in
theorem oneNegs_0 (P : E1) (hT : EP.times C1 rN P ≠ EP.zero) (k : Nat) (hk : k < frB) (w : World) :
    Calls Try.prog 8 #[sv [.n 6 (ax P.pt), .n 6 (ay P.pt), .b (ai P.pt)], nv 4 [k]] w (Is (.bool true) w) := by
  obtain ⟨N, hN⟩ : ∃ q_ : E1, q_ = P.neg := ⟨_, rfl⟩
  obtain ⟨A, hA⟩ : ∃ q_ : E1, q_ = EP.times C1 k P := ⟨_, rfl⟩
  obtain ⟨B, hB⟩ : ∃ q_ : E1, q_ = A.neg := ⟨_, rfl⟩
  go_enter Try.func8, Try.ntmps8
  refine wp_seq (region_m (F := fun γ => ⟨List.toArray ((sv [.n 6 (ax P.pt), .n 6 (ay P.pt), .b (ai P.pt)]) :: (nv 4 [k]) :: (.pointer (some ⟨γ 0, 0, none⟩)) :: (.pointer (some ⟨γ 1, 0, none⟩)) :: (.bool false) :: undef :: undef :: undef :: undef :: undef :: undef :: undef :: undef :: undef :: undef :: undef :: undef :: undef :: undef :: undef :: undef :: undef :: undef :: undef :: undef :: undef :: undef :: undef :: undef :: undef :: undef :: undef :: undef :: undef :: undef :: undef :: undef :: undef :: undef :: undef :: undef :: undef :: undef :: undef :: undef :: undef :: undef :: undef :: undef :: undef :: undef :: undef :: undef :: undef :: undef :: undef :: undef :: []), []⟩) 2 (fun j_ => match j_ with | 0 => 26 | _ => 41) (fun j_ => match j_ with | 0 => 0 | _ => 1) (fun j_ => match j_ with | 0 => 0 | _ => 1) (fun j_ => match j_ with | 0 => segs [.n 6 (ax P.pt), .n 6 (ay P.pt), .b (ai P.pt)] | _ => segs [.n 4 k]) (fun j_ => match j_ with | 0 => segs [.n 6 (ax P.pt), .n 6 (ay P.pt), .b (ai P.pt)] | _ => segs [.n 4 k]) [2, 3, 4] (.inr ⟨rfl, by kernel_rfl⟩) (by kernel_rfl) rfl rfl rfl ?_ ?_)
  · refine GSteps.cons (gm_box 0 rfl (fun _ => rfl) (fun _ _ => rfl) (fun γ w h => ex_boxs (l := [.n 6 (ax P.pt), .n 6 (ay P.pt), .b (ai P.pt)]) rfl) rfl rfl rfl) ?_
    refine GSteps.cons (gm_box 1 rfl (fun _ => rfl) (fun _ _ => rfl) (fun γ w h => ex_boxsn (K := 4) (l := [k]) rfl) rfl rfl rfl) ?_
    refine GSteps.cons (gm_val (v := .bool false) rfl (fun _ => rfl) (fun _ => rfl) (fun γ w h => ex_assign _) rfl) ?_
    exact GSteps.nil
  intro γ1 w1 hb1 hB1 hn1
  refine th_r ?_
  have A2 : SB 26 w1 (γ1 0) [.n 6 (ax P.pt), .n 6 (ay P.pt), .b (ai P.pt)] := (hB1 0 (by decide)).2
  have le2 := (hB1 0 (by decide)).1
  have A3 : SB 41 w1 (γ1 1) [.n 4 k] := (hB1 1 (by decide)).2
  have le3 := (hB1 1 (by decide)).1
  have HB4 := below_then (Below.refl w.heap.size w) hb1.out
  refine wp_seq ?_
  refine wp_seq (region_m (F := fun _ => ⟨List.toArray ((sv [.n 6 (ax P.pt), .n 6 (ay P.pt), .b (ai P.pt)]) :: (nv 4 [k]) :: (.pointer (some ⟨(γ1 0), 0, none⟩)) :: (.pointer (some ⟨(γ1 1), 0, none⟩)) :: (.bool false) :: undef :: undef :: undef :: undef :: (sv [.n 6 (ax P.pt), .n 6 (ay P.pt), .b (ai P.pt)]) :: (.bool true) :: (.bool false) :: undef :: undef :: undef :: undef :: undef :: undef :: undef :: undef :: undef :: undef :: undef :: undef :: undef :: undef :: undef :: undef :: undef :: undef :: undef :: undef :: undef :: undef :: undef :: undef :: undef :: undef :: undef :: undef :: undef :: undef :: undef :: undef :: undef :: undef :: undef :: undef :: undef :: undef :: undef :: undef :: undef :: undef :: undef :: undef :: undef :: []), []⟩) 0 (fun _ => 0) (fun _ => 0) (fun _ => 0) (fun _ => []) (fun _ => []) [9, 10, 11] (.inr ⟨rfl, by kernel_rfl⟩) (by kernel_rfl) rfl rfl rfl ?_ ?_)
  · refine GSteps.cons (gm_val (v := sv [.n 6 (ax P.pt), .n 6 (ay P.pt), .b (ai P.pt)]) rfl (fun _ => rfl) (fun _ => rfl) (fun γ w h => ex_loads 0 3 (m := [.n 6 (ax P.pt), .n 6 (ay P.pt), .b (ai P.pt)]) flG1 rfl rfl (A2.keep h.out) rfl rfl) rfl) ?_
    refine GSteps.cons (gm_call (v := .bool true) rfl (fun _ => rfl) (fun _ => rfl) (fun γ w => ex_call (vs := [sv [.n 6 (ax P.pt), .n 6 (ay P.pt), .b (ai P.pt)]]) rfl Try.call9 rfl) (fun w h => r8Right_p P _) rfl) ?_
    refine GSteps.cons (gm_val (v := .bool false) rfl (fun _ => rfl) (fun _ => rfl) (fun γ w h => ex_not (r := true) rfl) rfl) ?_
    exact GSteps.nil
  intro _ w5 hb5 _ _
  refine th_r ?_
  have A6 := A2.keep hb5.out
  have A7 := A3.keep hb5.out
  have HB8 := below_then HB4 hb5.out
  refine wp_cond_false rfl ?_
  refine wp_skip ?_
  refine th_r ?_
  refine wp_seq (region_m (F := fun γ => ⟨List.toArray ((sv [.n 6 (ax P.pt), .n 6 (ay P.pt), .b (ai P.pt)]) :: (nv 4 [k]) :: (.pointer (some ⟨(γ1 0), 0, none⟩)) :: (.pointer (some ⟨(γ1 1), 0, none⟩)) :: (.bool false) :: (.pointer (some ⟨γ 0, 0, none⟩)) :: (.int .i64 0) :: undef :: undef :: (sv [.n 6 (ax P.pt), .n 6 (ay P.pt), .b (ai P.pt)]) :: (.bool true) :: (.bool false) :: undef :: (.tuple #[sv [.n 6 (ax N.pt), .n 6 (ay N.pt), .b (ai N.pt)], .int .i64 0]) :: (sv [.n 6 (ax P.pt), .n 6 (ay P.pt), .b (ai P.pt)]) :: (.tuple #[sv [.n 6 (ax N.pt), .n 6 (ay N.pt), .b (ai N.pt)], .int .i64 0]) :: (sv [.n 6 (ax N.pt), .n 6 (ay N.pt), .b (ai N.pt)]) :: (.int .i64 0) :: undef :: undef :: undef :: undef :: undef :: undef :: undef :: undef :: undef :: undef :: undef :: undef :: undef :: undef :: undef :: undef :: undef :: undef :: undef :: undef :: undef :: undef :: undef :: undef :: undef :: undef :: undef :: undef :: undef :: undef :: undef :: undef :: undef :: undef :: undef :: undef :: undef :: undef :: undef :: []), []⟩) 1 (fun _ => 26) (fun _ => 5) (fun _ => 6) (fun _ => segs [.n 6 0, .n 6 0, .b false]) (fun _ => segs [.n 6 (ax N.pt), .n 6 (ay N.pt), .b (ai N.pt)]) [14, 15, 13, 16, 17, 5, 6] (.inr ⟨rfl, by kernel_rfl⟩) (by kernel_rfl) rfl rfl rfl ?_ ?_)
  · refine GSteps.cons (gm_val (v := sv [.n 6 (ax P.pt), .n 6 (ay P.pt), .b (ai P.pt)]) rfl (fun _ => rfl) (fun _ => rfl) (fun γ w h => ex_loads 0 3 (m := [.n 6 (ax P.pt), .n 6 (ay P.pt), .b (ai P.pt)]) flG1 rfl rfl (A6.keep h.out) rfl rfl) rfl) ?_
    refine GSteps.cons (gm_call (v := .tuple #[sv [.n 6 (ax N.pt), .n 6 (ay N.pt), .b (ai N.pt)], .int .i64 0]) rfl (fun _ => rfl) (fun _ => rfl) (fun γ w => ex_call (vs := [sv [.n 6 (ax P.pt), .n 6 (ay P.pt), .b (ai P.pt)]]) rfl Try.call16 rfl) (fun w h => oneNeg_q P N hN.symm _) rfl) ?_
    refine GSteps.cons (gm_val (v := .tuple #[sv [.n 6 (ax N.pt), .n 6 (ay N.pt), .b (ai N.pt)], .int .i64 0]) rfl (fun _ => rfl) (fun _ => rfl) (fun γ w h => ex_move _) rfl) ?_
    refine GSteps.cons (gm_val (v := sv [.n 6 (ax N.pt), .n 6 (ay N.pt), .b (ai N.pt)]) rfl (fun _ => rfl) (fun _ => rfl) (fun γ w h => ex_extract (vs := [sv [.n 6 (ax N.pt), .n 6 (ay N.pt), .b (ai N.pt)], .int .i64 0]) rfl rfl) rfl) ?_
    refine GSteps.cons (gm_val (v := .int .i64 0) rfl (fun _ => rfl) (fun _ => rfl) (fun γ w h => ex_extract (vs := [sv [.n 6 (ax N.pt), .n 6 (ay N.pt), .b (ai N.pt)], .int .i64 0]) rfl rfl) rfl) ?_
    refine GSteps.cons (gm_new 0 rfl (fun _ => rfl) (fun _ _ => rfl) (fun γ w => ex_allocs (l := [.n 6 0, .n 6 0, .b false]) zG1) rfl (by kernel_rfl)) ?_
    refine GSteps.cons (gm_store 0 rfl rfl (fun _ => rfl) (len_segs (l := [.n 6 (ax N.pt), .n 6 (ay N.pt), .b (ai N.pt)]) (l' := [.n 6 0, .n 6 0, .b false]) rfl) (fun γ w h => ex_stores 0 3 (l := [.n 6 0, .n 6 0, .b false]) (m := [.n 6 (ax N.pt), .n 6 (ay N.pt), .b (ai N.pt)]) flG1.2 rfl rfl rfl rfl h rfl rfl) rfl rfl (by kernel_rfl)) ?_
    refine GSteps.cons (gm_val (v := .int .i64 0) rfl (fun _ => rfl) (fun _ => rfl) (fun γ w h => ex_assign _) rfl) ?_
    exact GSteps.nil
  intro γ9 w9 hb9 hB9 _
  refine th_r ?_
  have A10 := A6.keep hb9.out
  have A11 := A7.keep hb9.out
  have A12 : SB 26 w9 (γ9 0) [.n 6 (ax N.pt), .n 6 (ay N.pt), .b (ai N.pt)] := (hB9 0 (by decide)).2
  have le12 := (hB9 0 (by decide)).1
  have HB13 := below_then HB8 hb9.out
  refine wp_seq (region_m (F := fun γ => ⟨List.toArray ((sv [.n 6 (ax P.pt), .n 6 (ay P.pt), .b (ai P.pt)]) :: (nv 4 [k]) :: (.pointer (some ⟨(γ1 0), 0, none⟩)) :: (.pointer (some ⟨(γ1 1), 0, none⟩)) :: (.bool false) :: (.pointer (some ⟨(γ9 0), 0, none⟩)) :: (.int .i64 0) :: (.pointer (some ⟨γ 0, 0, none⟩)) :: (.int .i64 0) :: (sv [.n 6 (ax P.pt), .n 6 (ay P.pt), .b (ai P.pt)]) :: (.bool true) :: (.bool false) :: undef :: (.tuple #[sv [.n 6 (ax N.pt), .n 6 (ay N.pt), .b (ai N.pt)], .int .i64 0]) :: (sv [.n 6 (ax P.pt), .n 6 (ay P.pt), .b (ai P.pt)]) :: (.tuple #[sv [.n 6 (ax N.pt), .n 6 (ay N.pt), .b (ai N.pt)], .int .i64 0]) :: (sv [.n 6 (ax N.pt), .n 6 (ay N.pt), .b (ai N.pt)]) :: (.int .i64 0) :: (.tuple #[sv [.n 6 (ax B.pt), .n 6 (ay B.pt), .b (ai B.pt)], .int .i64 0]) :: (sv [.n 6 (ax P.pt), .n 6 (ay P.pt), .b (ai P.pt)]) :: (nv 4 [k]) :: (sv [.n 6 (ax A.pt), .n 6 (ay A.pt), .b (ai A.pt)]) :: (.tuple #[sv [.n 6 (ax B.pt), .n 6 (ay B.pt), .b (ai B.pt)], .int .i64 0]) :: (sv [.n 6 (ax B.pt), .n 6 (ay B.pt), .b (ai B.pt)]) :: (.int .i64 0) :: undef :: undef :: undef :: undef :: undef :: undef :: undef :: undef :: undef :: undef :: undef :: undef :: undef :: undef :: undef :: undef :: undef :: undef :: undef :: undef :: undef :: undef :: undef :: undef :: undef :: undef :: undef :: undef :: undef :: undef :: undef :: undef :: []), []⟩) 1 (fun _ => 26) (fun _ => 7) (fun _ => 8) (fun _ => segs [.n 6 0, .n 6 0, .b false]) (fun _ => segs [.n 6 (ax B.pt), .n 6 (ay B.pt), .b (ai B.pt)]) [19, 20, 21, 22, 18, 23, 24, 7, 8] (.inr ⟨rfl, by kernel_rfl⟩) (by kernel_rfl) rfl rfl rfl ?_ ?_)
  · refine GSteps.cons (gm_val (v := sv [.n 6 (ax P.pt), .n 6 (ay P.pt), .b (ai P.pt)]) rfl (fun _ => rfl) (fun _ => rfl) (fun γ w h => ex_loads 0 3 (m := [.n 6 (ax P.pt), .n 6 (ay P.pt), .b (ai P.pt)]) flG1 rfl rfl (A10.keep h.out) rfl rfl) rfl) ?_
    refine GSteps.cons (gm_val (v := nv 4 [k]) rfl (fun _ => rfl) (fun _ => rfl) (fun γ w h => ex_loadsn (K := 4) 0 1 (m := [k]) flFr rfl rfl (A11.keep h.out) rfl rfl) rfl) ?_
    refine GSteps.cons (gm_call (v := sv [.n 6 (ax A.pt), .n 6 (ay A.pt), .b (ai A.pt)]) rfl (fun _ => rfl) (fun _ => rfl) (fun γ w => ex_call (vs := [sv [.n 6 (ax P.pt), .n 6 (ay P.pt), .b (ai P.pt)], nv 4 [k]]) rfl Try.call21 rfl) (fun w h => onemul_v P A k hk hA.symm _) rfl) ?_
    refine GSteps.cons (gm_call (v := .tuple #[sv [.n 6 (ax B.pt), .n 6 (ay B.pt), .b (ai B.pt)], .int .i64 0]) rfl (fun _ => rfl) (fun _ => rfl) (fun γ w => ex_call (vs := [sv [.n 6 (ax A.pt), .n 6 (ay A.pt), .b (ai A.pt)]]) rfl Try.call16 rfl) (fun w h => oneNeg_q A B hB.symm _) rfl) ?_
    refine GSteps.cons (gm_val (v := .tuple #[sv [.n 6 (ax B.pt), .n 6 (ay B.pt), .b (ai B.pt)], .int .i64 0]) rfl (fun _ => rfl) (fun _ => rfl) (fun γ w h => ex_move _) rfl) ?_
    refine GSteps.cons (gm_val (v := sv [.n 6 (ax B.pt), .n 6 (ay B.pt), .b (ai B.pt)]) rfl (fun _ => rfl) (fun _ => rfl) (fun γ w h => ex_extract (vs := [sv [.n 6 (ax B.pt), .n 6 (ay B.pt), .b (ai B.pt)], .int .i64 0]) rfl rfl) rfl) ?_
    refine GSteps.cons (gm_val (v := .int .i64 0) rfl (fun _ => rfl) (fun _ => rfl) (fun γ w h => ex_extract (vs := [sv [.n 6 (ax B.pt), .n 6 (ay B.pt), .b (ai B.pt)], .int .i64 0]) rfl rfl) rfl) ?_
    refine GSteps.cons (gm_new 0 rfl (fun _ => rfl) (fun _ _ => rfl) (fun γ w => ex_allocs (l := [.n 6 0, .n 6 0, .b false]) zG1) rfl (by kernel_rfl)) ?_
    refine GSteps.cons (gm_store 0 rfl rfl (fun _ => rfl) (len_segs (l := [.n 6 (ax B.pt), .n 6 (ay B.pt), .b (ai B.pt)]) (l' := [.n 6 0, .n 6 0, .b false]) rfl) (fun γ w h => ex_stores 0 3 (l := [.n 6 0, .n 6 0, .b false]) (m := [.n 6 (ax B.pt), .n 6 (ay B.pt), .b (ai B.pt)]) flG1.2 rfl rfl rfl rfl h rfl rfl) rfl rfl (by kernel_rfl)) ?_
    refine GSteps.cons (gm_val (v := .int .i64 0) rfl (fun _ => rfl) (fun _ => rfl) (fun γ w h => ex_assign _) rfl) ?_
    exact GSteps.nil
  intro γ14 w14 hb14 hB14 _
  refine th_r ?_
  have A15 := A10.keep hb14.out
  have A16 := A11.keep hb14.out
  have A17 := A12.keep hb14.out
  have A18 : SB 26 w14 (γ14 0) [.n 6 (ax B.pt), .n 6 (ay B.pt), .b (ai B.pt)] := (hB14 0 (by decide)).2
  have le18 := (hB14 0 (by decide)).1
  have HB19 := below_then HB13 hb14.out
  refine wp_seq ?_
  refine wp_seq (region_m (F := fun _ => ⟨List.toArray ((sv [.n 6 (ax P.pt), .n 6 (ay P.pt), .b (ai P.pt)]) :: (nv 4 [k]) :: (.pointer (some ⟨(γ1 0), 0, none⟩)) :: (.pointer (some ⟨(γ1 1), 0, none⟩)) :: (.bool false) :: (.pointer (some ⟨(γ9 0), 0, none⟩)) :: (.int .i64 0) :: (.pointer (some ⟨(γ14 0), 0, none⟩)) :: (.int .i64 0) :: (sv [.n 6 (ax P.pt), .n 6 (ay P.pt), .b (ai P.pt)]) :: (.bool true) :: (.bool false) :: undef :: (.tuple #[sv [.n 6 (ax N.pt), .n 6 (ay N.pt), .b (ai N.pt)], .int .i64 0]) :: (sv [.n 6 (ax P.pt), .n 6 (ay P.pt), .b (ai P.pt)]) :: (.tuple #[sv [.n 6 (ax N.pt), .n 6 (ay N.pt), .b (ai N.pt)], .int .i64 0]) :: (sv [.n 6 (ax N.pt), .n 6 (ay N.pt), .b (ai N.pt)]) :: (.int .i64 0) :: (.tuple #[sv [.n 6 (ax B.pt), .n 6 (ay B.pt), .b (ai B.pt)], .int .i64 0]) :: (sv [.n 6 (ax P.pt), .n 6 (ay P.pt), .b (ai P.pt)]) :: (nv 4 [k]) :: (sv [.n 6 (ax A.pt), .n 6 (ay A.pt), .b (ai A.pt)]) :: (.tuple #[sv [.n 6 (ax B.pt), .n 6 (ay B.pt), .b (ai B.pt)], .int .i64 0]) :: (sv [.n 6 (ax B.pt), .n 6 (ay B.pt), .b (ai B.pt)]) :: (.int .i64 0) :: (.int .i64 0) :: (.bool false) :: (.bool false) :: (.int .i64 0) :: (.bool false) :: (.bool false) :: (.bool false) :: (sv [.n 6 (ax N.pt), .n 6 (ay N.pt), .b (ai N.pt)]) :: (nv 4 [k]) :: (sv [.n 6 (ax B.pt), .n 6 (ay B.pt), .b (ai B.pt)]) :: (sv [.n 6 (ax B.pt), .n 6 (ay B.pt), .b (ai B.pt)]) :: (.bool false) :: (.bool false) :: (.bool false) :: (.bool true) :: (.bool false) :: (.bool false) :: undef :: undef :: undef :: undef :: undef :: undef :: undef :: undef :: undef :: undef :: undef :: undef :: undef :: undef :: undef :: []), []⟩) 0 (fun _ => 0) (fun _ => 0) (fun _ => 0) (fun _ => []) (fun _ => []) [25, 26, 27, 28, 29, 30, 31, 32, 33, 34, 35, 36, 37, 38, 39, 40, 41] (.inl ⟨rfl, by kernel_rfl⟩) (by kernel_rfl) rfl rfl rfl ?_ ?_)
  · refine GSteps.cons (gm_val (v := .int .i64 0) rfl (fun _ => rfl) (fun _ => rfl) (fun γ w h => ex_move _) rfl) ?_
    refine GSteps.cons (gm_val (v := .bool false) rfl (fun _ => rfl) (fun _ => rfl) (fun γ w h => ex_neqi rfl rfl _ rfl) rfl) ?_
    refine GSteps.cons (gm_val (v := .bool false) rfl (fun _ => rfl) (fun _ => rfl) (fun γ w h => ex_move _) rfl) ?_
    refine GSteps.cons (gm_val (v := .int .i64 0) rfl (fun _ => rfl) (fun _ => rfl) (fun γ w h => ex_move _) rfl) ?_
    refine GSteps.cons (gm_val (v := .bool false) rfl (fun _ => rfl) (fun _ => rfl) (fun γ w h => ex_neqi rfl rfl _ rfl) rfl) ?_
    refine GSteps.cons (gm_val (v := .bool false) rfl (fun _ => rfl) (fun _ => rfl) (fun γ w h => ex_pick (r := false) rfl) rfl) ?_
    refine GSteps.cons (gm_val (v := .bool false) rfl (fun _ => rfl) (fun _ => rfl) (fun γ w h => ex_move _) rfl) ?_
    refine GSteps.cons (gm_val (v := sv [.n 6 (ax N.pt), .n 6 (ay N.pt), .b (ai N.pt)]) rfl (fun _ => rfl) (fun _ => rfl) (fun γ w h => ex_loads 0 3 (m := [.n 6 (ax N.pt), .n 6 (ay N.pt), .b (ai N.pt)]) flG1 rfl rfl (A17.keep h.out) rfl rfl) rfl) ?_
    refine GSteps.cons (gm_val (v := nv 4 [k]) rfl (fun _ => rfl) (fun _ => rfl) (fun γ w h => ex_loadsn (K := 4) 0 1 (m := [k]) flFr rfl rfl (A16.keep h.out) rfl rfl) rfl) ?_
    refine GSteps.cons (gm_call (v := sv [.n 6 (ax B.pt), .n 6 (ay B.pt), .b (ai B.pt)]) rfl (fun _ => rfl) (fun _ => rfl) (fun γ w => ex_call (vs := [sv [.n 6 (ax N.pt), .n 6 (ay N.pt), .b (ai N.pt)], nv 4 [k]]) rfl Try.call21 rfl) (fun w h => onemul_v N B k hk (by rw [hN, hB, hA, EP.times_neg]) _) rfl) ?_
    refine GSteps.cons (gm_val (v := sv [.n 6 (ax B.pt), .n 6 (ay B.pt), .b (ai B.pt)]) rfl (fun _ => rfl) (fun _ => rfl) (fun γ w h => ex_loads 0 3 (m := [.n 6 (ax B.pt), .n 6 (ay B.pt), .b (ai B.pt)]) flG1 rfl rfl (A18.keep h.out) rfl rfl) rfl) ?_
    refine GSteps.cons (gm_val (v := .bool false) rfl (fun _ => rfl) (fun _ => rfl) (fun γ w h => ex_neqs gdG1 eqG1 rfl rfl rfl (shG1_of (ax_B B.pt) (ay_B B.pt)) (shG1_of (ax_B B.pt) (ay_B B.pt)) false (by simp)) rfl) ?_
    refine GSteps.cons (gm_val (v := .bool false) rfl (fun _ => rfl) (fun _ => rfl) (fun γ w h => ex_pick (r := false) rfl) rfl) ?_
    refine GSteps.cons (gm_val (v := .bool false) rfl (fun _ => rfl) (fun _ => rfl) (fun γ w h => ex_move _) rfl) ?_
    refine GSteps.cons (gm_call (v := .bool true) rfl (fun _ => rfl) (fun _ => rfl) (fun γ w => ex_call (vs := []) rfl Try.call10 rfl) (fun w h => onealive_v _) rfl) ?_
    refine GSteps.cons (gm_val (v := .bool false) rfl (fun _ => rfl) (fun _ => rfl) (fun γ w h => ex_not (r := true) rfl) rfl) ?_
    refine GSteps.cons (gm_val (v := .bool false) rfl (fun _ => rfl) (fun _ => rfl) (fun γ w h => ex_pick (r := false) rfl) rfl) ?_
    exact GSteps.nil
  intro _ w20 hb20 _ _
  refine th_r ?_
  have A21 := A15.keep hb20.out
  have A22 := A16.keep hb20.out
  have A23 := A17.keep hb20.out
  have A24 := A18.keep hb20.out
  have HB25 := below_then HB19 hb20.out
  refine wp_cond_false rfl ?_
  refine wp_skip ?_
  refine th_r ?_
  refine wp_seq (region_m (F := fun _ => ⟨List.toArray ((sv [.n 6 (ax P.pt), .n 6 (ay P.pt), .b (ai P.pt)]) :: (nv 4 [k]) :: (.pointer (some ⟨(γ1 0), 0, none⟩)) :: (.pointer (some ⟨(γ1 1), 0, none⟩)) :: (.bool true) :: (.pointer (some ⟨(γ9 0), 0, none⟩)) :: (.int .i64 0) :: (.pointer (some ⟨(γ14 0), 0, none⟩)) :: (.int .i64 0) :: (sv [.n 6 (ax P.pt), .n 6 (ay P.pt), .b (ai P.pt)]) :: (.bool true) :: (.bool false) :: undef :: (.tuple #[sv [.n 6 (ax N.pt), .n 6 (ay N.pt), .b (ai N.pt)], .int .i64 0]) :: (sv [.n 6 (ax P.pt), .n 6 (ay P.pt), .b (ai P.pt)]) :: (.tuple #[sv [.n 6 (ax N.pt), .n 6 (ay N.pt), .b (ai N.pt)], .int .i64 0]) :: (sv [.n 6 (ax N.pt), .n 6 (ay N.pt), .b (ai N.pt)]) :: (.int .i64 0) :: (.tuple #[sv [.n 6 (ax B.pt), .n 6 (ay B.pt), .b (ai B.pt)], .int .i64 0]) :: (sv [.n 6 (ax P.pt), .n 6 (ay P.pt), .b (ai P.pt)]) :: (nv 4 [k]) :: (sv [.n 6 (ax A.pt), .n 6 (ay A.pt), .b (ai A.pt)]) :: (.tuple #[sv [.n 6 (ax B.pt), .n 6 (ay B.pt), .b (ai B.pt)], .int .i64 0]) :: (sv [.n 6 (ax B.pt), .n 6 (ay B.pt), .b (ai B.pt)]) :: (.int .i64 0) :: (.int .i64 0) :: (.bool false) :: (.bool false) :: (.int .i64 0) :: (.bool false) :: (.bool false) :: (.bool false) :: (sv [.n 6 (ax N.pt), .n 6 (ay N.pt), .b (ai N.pt)]) :: (nv 4 [k]) :: (sv [.n 6 (ax B.pt), .n 6 (ay B.pt), .b (ai B.pt)]) :: (sv [.n 6 (ax B.pt), .n 6 (ay B.pt), .b (ai B.pt)]) :: (.bool false) :: (.bool false) :: (.bool false) :: (.bool true) :: (.bool false) :: (.bool false) :: (sv [.n 6 (ax P.pt), .n 6 (ay P.pt), .b (ai P.pt)]) :: (.bool false) :: (.bool true) :: (.bool true) :: undef :: undef :: undef :: undef :: undef :: undef :: undef :: undef :: undef :: undef :: (.bool true) :: []), []⟩) 0 (fun _ => 0) (fun _ => 0) (fun _ => 0) (fun _ => []) (fun _ => []) [42, 43, 44, 45, 46, 47, 48, 49, 50, 51, 52, 53, 54, 55, 56, 4] (.inl ⟨rfl, by kernel_rfl⟩) (by kernel_rfl) rfl rfl rfl ?_ ?_)
  · refine GSteps.cons (gm_val (v := sv [.n 6 (ax P.pt), .n 6 (ay P.pt), .b (ai P.pt)]) rfl (fun _ => rfl) (fun _ => rfl) (fun γ w h => ex_loads 0 3 (m := [.n 6 (ax P.pt), .n 6 (ay P.pt), .b (ai P.pt)]) flG1 rfl rfl (A21.keep h.out) rfl rfl) rfl) ?_
    refine GSteps.cons (gm_call (v := .bool false) rfl (fun _ => rfl) (fun _ => rfl) (fun γ w => ex_call (vs := [sv [.n 6 (ax P.pt), .n 6 (ay P.pt), .b (ai P.pt)]]) rfl Try.call12 rfl) (fun w h => oneGroup_q P false ⟨fun e => Bool.noConfusion e, fun e => absurd e hT⟩ _) rfl) ?_
    refine GSteps.cons (gm_val (v := .bool true) rfl (fun _ => rfl) (fun _ => rfl) (fun γ w h => ex_not (r := false) rfl) rfl) ?_
    refine GSteps.cons (gm_val (v := .bool true) rfl (fun _ => rfl) (fun _ => rfl) (fun γ w h => ex_move _) rfl) ?_
    refine GSteps.cons (gm_skip rfl (fun _ => rfl) (fun _ => rfl) rfl) ?_
    refine GSteps.cons (gm_skip rfl (fun _ => rfl) (fun _ => rfl) rfl) ?_
    refine GSteps.cons (gm_skip rfl (fun _ => rfl) (fun _ => rfl) rfl) ?_
    refine GSteps.cons (gm_skip rfl (fun _ => rfl) (fun _ => rfl) rfl) ?_
    refine GSteps.cons (gm_skip rfl (fun _ => rfl) (fun _ => rfl) rfl) ?_
    refine GSteps.cons (gm_skip rfl (fun _ => rfl) (fun _ => rfl) rfl) ?_
    refine GSteps.cons (gm_skip rfl (fun _ => rfl) (fun _ => rfl) rfl) ?_
    refine GSteps.cons (gm_skip rfl (fun _ => rfl) (fun _ => rfl) rfl) ?_
    refine GSteps.cons (gm_skip rfl (fun _ => rfl) (fun _ => rfl) rfl) ?_
    refine GSteps.cons (gm_skip rfl (fun _ => rfl) (fun _ => rfl) rfl) ?_
    refine GSteps.cons (gm_val (v := .bool true) rfl (fun _ => rfl) (fun _ => rfl) (fun γ w h => ex_pick (r := true) rfl) rfl) ?_
    refine GSteps.cons (gm_val (v := .bool true) rfl (fun _ => rfl) (fun _ => rfl) (fun γ w h => ex_assign _) rfl) ?_
    exact GSteps.nil
  intro _ w26 hb26 _ _
  refine th_r ?_
  have A27 := A21.keep hb26.out
  have A28 := A22.keep hb26.out
  have A29 := A23.keep hb26.out
  have A30 := A24.keep hb26.out
  have HB31 := below_then HB25 hb26.out
  exact wp_ret (bodyPost_ret (ret1 Try.results8 (res_tmp rfl)) rfl ⟨rfl, HB31⟩)

theorem neg_modR (k : Nat) : (k + (rN - k % rN) % rN) % rN = 0 := by
  rw [Nat.add_mod, Nat.mod_mod]
  have h := frM_mod k
  generalize k % rN = r at *
  rcases Nat.eq_zero_or_pos r with rfl | hr
  · rw [Nat.sub_zero, Nat.mod_self, Nat.add_zero, Nat.zero_mod]
  · rw [Nat.mod_eq_of_lt (by omega : rN - r < rN), Nat.add_sub_of_le (Nat.le_of_lt h), Nat.mod_self]

set_option maxRecDepth 20000 in
set_option maxHeartbeats 4000000 in
theorem oneNegs_1 (P : E1) (hT : EP.times C1 rN P = EP.zero) (k : Nat) (hk : k < frB) (w : World) :
    Calls Try.prog 8 #[sv [.n 6 (ax P.pt), .n 6 (ay P.pt), .b (ai P.pt)], nv 4 [k]] w (Is (.bool true) w) := by
  obtain ⟨c, hc⟩ : ∃ c, c = (rN - k % rN) % rN := ⟨_, rfl⟩
  obtain ⟨N, hN⟩ : ∃ q_ : E1, q_ = P.neg := ⟨_, rfl⟩
  obtain ⟨A, hA⟩ : ∃ q_ : E1, q_ = EP.times C1 k P := ⟨_, rfl⟩
  obtain ⟨B, hB⟩ : ∃ q_ : E1, q_ = A.neg := ⟨_, rfl⟩
  obtain ⟨G, hG⟩ : ∃ q_ : E1, q_ = EP.times C1 c P := ⟨_, rfl⟩
  go_enter Try.func8, Try.ntmps8
  refine wp_seq (region_m (F := fun γ => ⟨List.toArray ((sv [.n 6 (ax P.pt), .n 6 (ay P.pt), .b (ai P.pt)]) :: (nv 4 [k]) :: (.pointer (some ⟨γ 0, 0, none⟩)) :: (.pointer (some ⟨γ 1, 0, none⟩)) :: (.bool false) :: undef :: undef :: undef :: undef :: undef :: undef :: undef :: undef :: undef :: undef :: undef :: undef :: undef :: undef :: undef :: undef :: undef :: undef :: undef :: undef :: undef :: undef :: undef :: undef :: undef :: undef :: undef :: undef :: undef :: undef :: undef :: undef :: undef :: undef :: undef :: undef :: undef :: undef :: undef :: undef :: undef :: undef :: undef :: undef :: undef :: undef :: undef :: undef :: undef :: undef :: undef :: undef :: []), []⟩) 2 (fun j_ => match j_ with | 0 => 26 | _ => 41) (fun j_ => match j_ with | 0 => 0 | _ => 1) (fun j_ => match j_ with | 0 => 0 | _ => 1) (fun j_ => match j_ with | 0 => segs [.n 6 (ax P.pt), .n 6 (ay P.pt), .b (ai P.pt)] | _ => segs [.n 4 k]) (fun j_ => match j_ with | 0 => segs [.n 6 (ax P.pt), .n 6 (ay P.pt), .b (ai P.pt)] | _ => segs [.n 4 k]) [2, 3, 4] (.inr ⟨rfl, by kernel_rfl⟩) (by kernel_rfl) rfl rfl rfl ?_ ?_)
  · refine GSteps.cons (gm_box 0 rfl (fun _ => rfl) (fun _ _ => rfl) (fun γ w h => ex_boxs (l := [.n 6 (ax P.pt), .n 6 (ay P.pt), .b (ai P.pt)]) rfl) rfl rfl rfl) ?_
    refine GSteps.cons (gm_box 1 rfl (fun _ => rfl) (fun _ _ => rfl) (fun γ w h => ex_boxsn (K := 4) (l := [k]) rfl) rfl rfl rfl) ?_
    refine GSteps.cons (gm_val (v := .bool false) rfl (fun _ => rfl) (fun _ => rfl) (fun γ w h => ex_assign _) rfl) ?_
    exact GSteps.nil
  intro γ1 w1 hb1 hB1 hn1
  refine th_r ?_
  have A2 : SB 26 w1 (γ1 0) [.n 6 (ax P.pt), .n 6 (ay P.pt), .b (ai P.pt)] := (hB1 0 (by decide)).2
  have le2 := (hB1 0 (by decide)).1
  have A3 : SB 41 w1 (γ1 1) [.n 4 k] := (hB1 1 (by decide)).2
  have le3 := (hB1 1 (by decide)).1
  have HB4 := below_then (Below.refl w.heap.size w) hb1.out
  refine wp_seq ?_
  refine wp_seq (region_m (F := fun _ => ⟨List.toArray ((sv [.n 6 (ax P.pt), .n 6 (ay P.pt), .b (ai P.pt)]) :: (nv 4 [k]) :: (.pointer (some ⟨(γ1 0), 0, none⟩)) :: (.pointer (some ⟨(γ1 1), 0, none⟩)) :: (.bool false) :: undef :: undef :: undef :: undef :: (sv [.n 6 (ax P.pt), .n 6 (ay P.pt), .b (ai P.pt)]) :: (.bool true) :: (.bool false) :: undef :: undef :: undef :: undef :: undef :: undef :: undef :: undef :: undef :: undef :: undef :: undef :: undef :: undef :: undef :: undef :: undef :: undef :: undef :: undef :: undef :: undef :: undef :: undef :: undef :: undef :: undef :: undef :: undef :: undef :: undef :: undef :: undef :: undef :: undef :: undef :: undef :: undef :: undef :: undef :: undef :: undef :: undef :: undef :: undef :: []), []⟩) 0 (fun _ => 0) (fun _ => 0) (fun _ => 0) (fun _ => []) (fun _ => []) [9, 10, 11] (.inr ⟨rfl, by kernel_rfl⟩) (by kernel_rfl) rfl rfl rfl ?_ ?_)
  · refine GSteps.cons (gm_val (v := sv [.n 6 (ax P.pt), .n 6 (ay P.pt), .b (ai P.pt)]) rfl (fun _ => rfl) (fun _ => rfl) (fun γ w h => ex_loads 0 3 (m := [.n 6 (ax P.pt), .n 6 (ay P.pt), .b (ai P.pt)]) flG1 rfl rfl (A2.keep h.out) rfl rfl) rfl) ?_
    refine GSteps.cons (gm_call (v := .bool true) rfl (fun _ => rfl) (fun _ => rfl) (fun γ w => ex_call (vs := [sv [.n 6 (ax P.pt), .n 6 (ay P.pt), .b (ai P.pt)]]) rfl Try.call9 rfl) (fun w h => r8Right_p P _) rfl) ?_
    refine GSteps.cons (gm_val (v := .bool false) rfl (fun _ => rfl) (fun _ => rfl) (fun γ w h => ex_not (r := true) rfl) rfl) ?_
    exact GSteps.nil
  intro _ w5 hb5 _ _
  refine th_r ?_
  have A6 := A2.keep hb5.out
  have A7 := A3.keep hb5.out
  have HB8 := below_then HB4 hb5.out
  refine wp_cond_false rfl ?_
  refine wp_skip ?_
  refine th_r ?_
  refine wp_seq (region_m (F := fun γ => ⟨List.toArray ((sv [.n 6 (ax P.pt), .n 6 (ay P.pt), .b (ai P.pt)]) :: (nv 4 [k]) :: (.pointer (some ⟨(γ1 0), 0, none⟩)) :: (.pointer (some ⟨(γ1 1), 0, none⟩)) :: (.bool false) :: (.pointer (some ⟨γ 0, 0, none⟩)) :: (.int .i64 0) :: undef :: undef :: (sv [.n 6 (ax P.pt), .n 6 (ay P.pt), .b (ai P.pt)]) :: (.bool true) :: (.bool false) :: undef :: (.tuple #[sv [.n 6 (ax N.pt), .n 6 (ay N.pt), .b (ai N.pt)], .int .i64 0]) :: (sv [.n 6 (ax P.pt), .n 6 (ay P.pt), .b (ai P.pt)]) :: (.tuple #[sv [.n 6 (ax N.pt), .n 6 (ay N.pt), .b (ai N.pt)], .int .i64 0]) :: (sv [.n 6 (ax N.pt), .n 6 (ay N.pt), .b (ai N.pt)]) :: (.int .i64 0) :: undef :: undef :: undef :: undef :: undef :: undef :: undef :: undef :: undef :: undef :: undef :: undef :: undef :: undef :: undef :: undef :: undef :: undef :: undef :: undef :: undef :: undef :: undef :: undef :: undef :: undef :: undef :: undef :: undef :: undef :: undef :: undef :: undef :: undef :: undef :: undef :: undef :: undef :: undef :: []), []⟩) 1 (fun _ => 26) (fun _ => 5) (fun _ => 6) (fun _ => segs [.n 6 0, .n 6 0, .b false]) (fun _ => segs [.n 6 (ax N.pt), .n 6 (ay N.pt), .b (ai N.pt)]) [14, 15, 13, 16, 17, 5, 6] (.inr ⟨rfl, by kernel_rfl⟩) (by kernel_rfl) rfl rfl rfl ?_ ?_)
  · refine GSteps.cons (gm_val (v := sv [.n 6 (ax P.pt), .n 6 (ay P.pt), .b (ai P.pt)]) rfl (fun _ => rfl) (fun _ => rfl) (fun γ w h => ex_loads 0 3 (m := [.n 6 (ax P.pt), .n 6 (ay P.pt), .b (ai P.pt)]) flG1 rfl rfl (A6.keep h.out) rfl rfl) rfl) ?_
    refine GSteps.cons (gm_call (v := .tuple #[sv [.n 6 (ax N.pt), .n 6 (ay N.pt), .b (ai N.pt)], .int .i64 0]) rfl (fun _ => rfl) (fun _ => rfl) (fun γ w => ex_call (vs := [sv [.n 6 (ax P.pt), .n 6 (ay P.pt), .b (ai P.pt)]]) rfl Try.call16 rfl) (fun w h => oneNeg_q P N hN.symm _) rfl) ?_
    refine GSteps.cons (gm_val (v := .tuple #[sv [.n 6 (ax N.pt), .n 6 (ay N.pt), .b (ai N.pt)], .int .i64 0]) rfl (fun _ => rfl) (fun _ => rfl) (fun γ w h => ex_move _) rfl) ?_
    refine GSteps.cons (gm_val (v := sv [.n 6 (ax N.pt), .n 6 (ay N.pt), .b (ai N.pt)]) rfl (fun _ => rfl) (fun _ => rfl) (fun γ w h => ex_extract (vs := [sv [.n 6 (ax N.pt), .n 6 (ay N.pt), .b (ai N.pt)], .int .i64 0]) rfl rfl) rfl) ?_
    refine GSteps.cons (gm_val (v := .int .i64 0) rfl (fun _ => rfl) (fun _ => rfl) (fun γ w h => ex_extract (vs := [sv [.n 6 (ax N.pt), .n 6 (ay N.pt), .b (ai N.pt)], .int .i64 0]) rfl rfl) rfl) ?_
    refine GSteps.cons (gm_new 0 rfl (fun _ => rfl) (fun _ _ => rfl) (fun γ w => ex_allocs (l := [.n 6 0, .n 6 0, .b false]) zG1) rfl (by kernel_rfl)) ?_
    refine GSteps.cons (gm_store 0 rfl rfl (fun _ => rfl) (len_segs (l := [.n 6 (ax N.pt), .n 6 (ay N.pt), .b (ai N.pt)]) (l' := [.n 6 0, .n 6 0, .b false]) rfl) (fun γ w h => ex_stores 0 3 (l := [.n 6 0, .n 6 0, .b false]) (m := [.n 6 (ax N.pt), .n 6 (ay N.pt), .b (ai N.pt)]) flG1.2 rfl rfl rfl rfl h rfl rfl) rfl rfl (by kernel_rfl)) ?_
    refine GSteps.cons (gm_val (v := .int .i64 0) rfl (fun _ => rfl) (fun _ => rfl) (fun γ w h => ex_assign _) rfl) ?_
    exact GSteps.nil
  intro γ9 w9 hb9 hB9 _
  refine th_r ?_
  have A10 := A6.keep hb9.out
  have A11 := A7.keep hb9.out
  have A12 : SB 26 w9 (γ9 0) [.n 6 (ax N.pt), .n 6 (ay N.pt), .b (ai N.pt)] := (hB9 0 (by decide)).2
  have le12 := (hB9 0 (by decide)).1
  have HB13 := below_then HB8 hb9.out
  refine wp_seq (region_m (F := fun γ => ⟨List.toArray ((sv [.n 6 (ax P.pt), .n 6 (ay P.pt), .b (ai P.pt)]) :: (nv 4 [k]) :: (.pointer (some ⟨(γ1 0), 0, none⟩)) :: (.pointer (some ⟨(γ1 1), 0, none⟩)) :: (.bool false) :: (.pointer (some ⟨(γ9 0), 0, none⟩)) :: (.int .i64 0) :: (.pointer (some ⟨γ 0, 0, none⟩)) :: (.int .i64 0) :: (sv [.n 6 (ax P.pt), .n 6 (ay P.pt), .b (ai P.pt)]) :: (.bool true) :: (.bool false) :: undef :: (.tuple #[sv [.n 6 (ax N.pt), .n 6 (ay N.pt), .b (ai N.pt)], .int .i64 0]) :: (sv [.n 6 (ax P.pt), .n 6 (ay P.pt), .b (ai P.pt)]) :: (.tuple #[sv [.n 6 (ax N.pt), .n 6 (ay N.pt), .b (ai N.pt)], .int .i64 0]) :: (sv [.n 6 (ax N.pt), .n 6 (ay N.pt), .b (ai N.pt)]) :: (.int .i64 0) :: (.tuple #[sv [.n 6 (ax B.pt), .n 6 (ay B.pt), .b (ai B.pt)], .int .i64 0]) :: (sv [.n 6 (ax P.pt), .n 6 (ay P.pt), .b (ai P.pt)]) :: (nv 4 [k]) :: (sv [.n 6 (ax A.pt), .n 6 (ay A.pt), .b (ai A.pt)]) :: (.tuple #[sv [.n 6 (ax B.pt), .n 6 (ay B.pt), .b (ai B.pt)], .int .i64 0]) :: (sv [.n 6 (ax B.pt), .n 6 (ay B.pt), .b (ai B.pt)]) :: (.int .i64 0) :: undef :: undef :: undef :: undef :: undef :: undef :: undef :: undef :: undef :: undef :: undef :: undef :: undef :: undef :: undef :: undef :: undef :: undef :: undef :: undef :: undef :: undef :: undef :: undef :: undef :: undef :: undef :: undef :: undef :: undef :: undef :: undef :: []), []⟩) 1 (fun _ => 26) (fun _ => 7) (fun _ => 8) (fun _ => segs [.n 6 0, .n 6 0, .b false]) (fun _ => segs [.n 6 (ax B.pt), .n 6 (ay B.pt), .b (ai B.pt)]) [19, 20, 21, 22, 18, 23, 24, 7, 8] (.inr ⟨rfl, by kernel_rfl⟩) (by kernel_rfl) rfl rfl rfl ?_ ?_)
  · refine GSteps.cons (gm_val (v := sv [.n 6 (ax P.pt), .n 6 (ay P.pt), .b (ai P.pt)]) rfl (fun _ => rfl) (fun _ => rfl) (fun γ w h => ex_loads 0 3 (m := [.n 6 (ax P.pt), .n 6 (ay P.pt), .b (ai P.pt)]) flG1 rfl rfl (A10.keep h.out) rfl rfl) rfl) ?_
    refine GSteps.cons (gm_val (v := nv 4 [k]) rfl (fun _ => rfl) (fun _ => rfl) (fun γ w h => ex_loadsn (K := 4) 0 1 (m := [k]) flFr rfl rfl (A11.keep h.out) rfl rfl) rfl) ?_
    refine GSteps.cons (gm_call (v := sv [.n 6 (ax A.pt), .n 6 (ay A.pt), .b (ai A.pt)]) rfl (fun _ => rfl) (fun _ => rfl) (fun γ w => ex_call (vs := [sv [.n 6 (ax P.pt), .n 6 (ay P.pt), .b (ai P.pt)], nv 4 [k]]) rfl Try.call21 rfl) (fun w h => onemul_v P A k hk hA.symm _) rfl) ?_
    refine GSteps.cons (gm_call (v := .tuple #[sv [.n 6 (ax B.pt), .n 6 (ay B.pt), .b (ai B.pt)], .int .i64 0]) rfl (fun _ => rfl) (fun _ => rfl) (fun γ w => ex_call (vs := [sv [.n 6 (ax A.pt), .n 6 (ay A.pt), .b (ai A.pt)]]) rfl Try.call16 rfl) (fun w h => oneNeg_q A B hB.symm _) rfl) ?_
    refine GSteps.cons (gm_val (v := .tuple #[sv [.n 6 (ax B.pt), .n 6 (ay B.pt), .b (ai B.pt)], .int .i64 0]) rfl (fun _ => rfl) (fun _ => rfl) (fun γ w h => ex_move _) rfl) ?_
    refine GSteps.cons (gm_val (v := sv [.n 6 (ax B.pt), .n 6 (ay B.pt), .b (ai B.pt)]) rfl (fun _ => rfl) (fun _ => rfl) (fun γ w h => ex_extract (vs := [sv [.n 6 (ax B.pt), .n 6 (ay B.pt), .b (ai B.pt)], .int .i64 0]) rfl rfl) rfl) ?_
    refine GSteps.cons (gm_val (v := .int .i64 0) rfl (fun _ => rfl) (fun _ => rfl) (fun γ w h => ex_extract (vs := [sv [.n 6 (ax B.pt), .n 6 (ay B.pt), .b (ai B.pt)], .int .i64 0]) rfl rfl) rfl) ?_
    refine GSteps.cons (gm_new 0 rfl (fun _ => rfl) (fun _ _ => rfl) (fun γ w => ex_allocs (l := [.n 6 0, .n 6 0, .b false]) zG1) rfl (by kernel_rfl)) ?_
    refine GSteps.cons (gm_store 0 rfl rfl (fun _ => rfl) (len_segs (l := [.n 6 (ax B.pt), .n 6 (ay B.pt), .b (ai B.pt)]) (l' := [.n 6 0, .n 6 0, .b false]) rfl) (fun γ w h => ex_stores 0 3 (l := [.n 6 0, .n 6 0, .b false]) (m := [.n 6 (ax B.pt), .n 6 (ay B.pt), .b (ai B.pt)]) flG1.2 rfl rfl rfl rfl h rfl rfl) rfl rfl (by kernel_rfl)) ?_
    refine GSteps.cons (gm_val (v := .int .i64 0) rfl (fun _ => rfl) (fun _ => rfl) (fun γ w h => ex_assign _) rfl) ?_
    exact GSteps.nil
  intro γ14 w14 hb14 hB14 _
  refine th_r ?_
  have A15 := A10.keep hb14.out
  have A16 := A11.keep hb14.out
  have A17 := A12.keep hb14.out
  have A18 : SB 26 w14 (γ14 0) [.n 6 (ax B.pt), .n 6 (ay B.pt), .b (ai B.pt)] := (hB14 0 (by decide)).2
  have le18 := (hB14 0 (by decide)).1
  have HB19 := below_then HB13 hb14.out
  refine wp_seq ?_
  refine wp_seq (region_m (F := fun _ => ⟨List.toArray ((sv [.n 6 (ax P.pt), .n 6 (ay P.pt), .b (ai P.pt)]) :: (nv 4 [k]) :: (.pointer (some ⟨(γ1 0), 0, none⟩)) :: (.pointer (some ⟨(γ1 1), 0, none⟩)) :: (.bool false) :: (.pointer (some ⟨(γ9 0), 0, none⟩)) :: (.int .i64 0) :: (.pointer (some ⟨(γ14 0), 0, none⟩)) :: (.int .i64 0) :: (sv [.n 6 (ax P.pt), .n 6 (ay P.pt), .b (ai P.pt)]) :: (.bool true) :: (.bool false) :: undef :: (.tuple #[sv [.n 6 (ax N.pt), .n 6 (ay N.pt), .b (ai N.pt)], .int .i64 0]) :: (sv [.n 6 (ax P.pt), .n 6 (ay P.pt), .b (ai P.pt)]) :: (.tuple #[sv [.n 6 (ax N.pt), .n 6 (ay N.pt), .b (ai N.pt)], .int .i64 0]) :: (sv [.n 6 (ax N.pt), .n 6 (ay N.pt), .b (ai N.pt)]) :: (.int .i64 0) :: (.tuple #[sv [.n 6 (ax B.pt), .n 6 (ay B.pt), .b (ai B.pt)], .int .i64 0]) :: (sv [.n 6 (ax P.pt), .n 6 (ay P.pt), .b (ai P.pt)]) :: (nv 4 [k]) :: (sv [.n 6 (ax A.pt), .n 6 (ay A.pt), .b (ai A.pt)]) :: (.tuple #[sv [.n 6 (ax B.pt), .n 6 (ay B.pt), .b (ai B.pt)], .int .i64 0]) :: (sv [.n 6 (ax B.pt), .n 6 (ay B.pt), .b (ai B.pt)]) :: (.int .i64 0) :: (.int .i64 0) :: (.bool false) :: (.bool false) :: (.int .i64 0) :: (.bool false) :: (.bool false) :: (.bool false) :: (sv [.n 6 (ax N.pt), .n 6 (ay N.pt), .b (ai N.pt)]) :: (nv 4 [k]) :: (sv [.n 6 (ax B.pt), .n 6 (ay B.pt), .b (ai B.pt)]) :: (sv [.n 6 (ax B.pt), .n 6 (ay B.pt), .b (ai B.pt)]) :: (.bool false) :: (.bool false) :: (.bool false) :: (.bool true) :: (.bool false) :: (.bool false) :: undef :: undef :: undef :: undef :: undef :: undef :: undef :: undef :: undef :: undef :: undef :: undef :: undef :: undef :: undef :: []), []⟩) 0 (fun _ => 0) (fun _ => 0) (fun _ => 0) (fun _ => []) (fun _ => []) [25, 26, 27, 28, 29, 30, 31, 32, 33, 34, 35, 36, 37, 38, 39, 40, 41] (.inl ⟨rfl, by kernel_rfl⟩) (by kernel_rfl) rfl rfl rfl ?_ ?_)
  · refine GSteps.cons (gm_val (v := .int .i64 0) rfl (fun _ => rfl) (fun _ => rfl) (fun γ w h => ex_move _) rfl) ?_
    refine GSteps.cons (gm_val (v := .bool false) rfl (fun _ => rfl) (fun _ => rfl) (fun γ w h => ex_neqi rfl rfl _ rfl) rfl) ?_
    refine GSteps.cons (gm_val (v := .bool false) rfl (fun _ => rfl) (fun _ => rfl) (fun γ w h => ex_move _) rfl) ?_
    refine GSteps.cons (gm_val (v := .int .i64 0) rfl (fun _ => rfl) (fun _ => rfl) (fun γ w h => ex_move _) rfl) ?_
    refine GSteps.cons (gm_val (v := .bool false) rfl (fun _ => rfl) (fun _ => rfl) (fun γ w h => ex_neqi rfl rfl _ rfl) rfl) ?_
    refine GSteps.cons (gm_val (v := .bool false) rfl (fun _ => rfl) (fun _ => rfl) (fun γ w h => ex_pick (r := false) rfl) rfl) ?_
    refine GSteps.cons (gm_val (v := .bool false) rfl (fun _ => rfl) (fun _ => rfl) (fun γ w h => ex_move _) rfl) ?_
    refine GSteps.cons (gm_val (v := sv [.n 6 (ax N.pt), .n 6 (ay N.pt), .b (ai N.pt)]) rfl (fun _ => rfl) (fun _ => rfl) (fun γ w h => ex_loads 0 3 (m := [.n 6 (ax N.pt), .n 6 (ay N.pt), .b (ai N.pt)]) flG1 rfl rfl (A17.keep h.out) rfl rfl) rfl) ?_
    refine GSteps.cons (gm_val (v := nv 4 [k]) rfl (fun _ => rfl) (fun _ => rfl) (fun γ w h => ex_loadsn (K := 4) 0 1 (m := [k]) flFr rfl rfl (A16.keep h.out) rfl rfl) rfl) ?_
    refine GSteps.cons (gm_call (v := sv [.n 6 (ax B.pt), .n 6 (ay B.pt), .b (ai B.pt)]) rfl (fun _ => rfl) (fun _ => rfl) (fun γ w => ex_call (vs := [sv [.n 6 (ax N.pt), .n 6 (ay N.pt), .b (ai N.pt)], nv 4 [k]]) rfl Try.call21 rfl) (fun w h => onemul_v N B k hk (by rw [hN, hB, hA, EP.times_neg]) _) rfl) ?_
    refine GSteps.cons (gm_val (v := sv [.n 6 (ax B.pt), .n 6 (ay B.pt), .b (ai B.pt)]) rfl (fun _ => rfl) (fun _ => rfl) (fun γ w h => ex_loads 0 3 (m := [.n 6 (ax B.pt), .n 6 (ay B.pt), .b (ai B.pt)]) flG1 rfl rfl (A18.keep h.out) rfl rfl) rfl) ?_
    refine GSteps.cons (gm_val (v := .bool false) rfl (fun _ => rfl) (fun _ => rfl) (fun γ w h => ex_neqs gdG1 eqG1 rfl rfl rfl (shG1_of (ax_B B.pt) (ay_B B.pt)) (shG1_of (ax_B B.pt) (ay_B B.pt)) false (by simp)) rfl) ?_
    refine GSteps.cons (gm_val (v := .bool false) rfl (fun _ => rfl) (fun _ => rfl) (fun γ w h => ex_pick (r := false) rfl) rfl) ?_
    refine GSteps.cons (gm_val (v := .bool false) rfl (fun _ => rfl) (fun _ => rfl) (fun γ w h => ex_move _) rfl) ?_
    refine GSteps.cons (gm_call (v := .bool true) rfl (fun _ => rfl) (fun _ => rfl) (fun γ w => ex_call (vs := []) rfl Try.call10 rfl) (fun w h => onealive_v _) rfl) ?_
    refine GSteps.cons (gm_val (v := .bool false) rfl (fun _ => rfl) (fun _ => rfl) (fun γ w h => ex_not (r := true) rfl) rfl) ?_
    refine GSteps.cons (gm_val (v := .bool false) rfl (fun _ => rfl) (fun _ => rfl) (fun γ w h => ex_pick (r := false) rfl) rfl) ?_
    exact GSteps.nil
  intro _ w20 hb20 _ _
  refine th_r ?_
  have A21 := A15.keep hb20.out
  have A22 := A16.keep hb20.out
  have A23 := A17.keep hb20.out
  have A24 := A18.keep hb20.out
  have HB25 := below_then HB19 hb20.out
  refine wp_cond_false rfl ?_
  refine wp_skip ?_
  refine th_r ?_
  refine wp_seq (region_m (F := fun _ => ⟨List.toArray ((sv [.n 6 (ax P.pt), .n 6 (ay P.pt), .b (ai P.pt)]) :: (nv 4 [k]) :: (.pointer (some ⟨(γ1 0), 0, none⟩)) :: (.pointer (some ⟨(γ1 1), 0, none⟩)) :: (.bool true) :: (.pointer (some ⟨(γ9 0), 0, none⟩)) :: (.int .i64 0) :: (.pointer (some ⟨(γ14 0), 0, none⟩)) :: (.int .i64 0) :: (sv [.n 6 (ax P.pt), .n 6 (ay P.pt), .b (ai P.pt)]) :: (.bool true) :: (.bool false) :: undef :: (.tuple #[sv [.n 6 (ax N.pt), .n 6 (ay N.pt), .b (ai N.pt)], .int .i64 0]) :: (sv [.n 6 (ax P.pt), .n 6 (ay P.pt), .b (ai P.pt)]) :: (.tuple #[sv [.n 6 (ax N.pt), .n 6 (ay N.pt), .b (ai N.pt)], .int .i64 0]) :: (sv [.n 6 (ax N.pt), .n 6 (ay N.pt), .b (ai N.pt)]) :: (.int .i64 0) :: (.tuple #[sv [.n 6 (ax B.pt), .n 6 (ay B.pt), .b (ai B.pt)], .int .i64 0]) :: (sv [.n 6 (ax P.pt), .n 6 (ay P.pt), .b (ai P.pt)]) :: (nv 4 [k]) :: (sv [.n 6 (ax A.pt), .n 6 (ay A.pt), .b (ai A.pt)]) :: (.tuple #[sv [.n 6 (ax B.pt), .n 6 (ay B.pt), .b (ai B.pt)], .int .i64 0]) :: (sv [.n 6 (ax B.pt), .n 6 (ay B.pt), .b (ai B.pt)]) :: (.int .i64 0) :: (.int .i64 0) :: (.bool false) :: (.bool false) :: (.int .i64 0) :: (.bool false) :: (.bool false) :: (.bool false) :: (sv [.n 6 (ax N.pt), .n 6 (ay N.pt), .b (ai N.pt)]) :: (nv 4 [k]) :: (sv [.n 6 (ax B.pt), .n 6 (ay B.pt), .b (ai B.pt)]) :: (sv [.n 6 (ax B.pt), .n 6 (ay B.pt), .b (ai B.pt)]) :: (.bool false) :: (.bool false) :: (.bool false) :: (.bool true) :: (.bool false) :: (.bool false) :: (sv [.n 6 (ax P.pt), .n 6 (ay P.pt), .b (ai P.pt)]) :: (.bool true) :: (.bool false) :: (.bool false) :: (sv [.n 6 (ax P.pt), .n 6 (ay P.pt), .b (ai P.pt)]) :: (nv 4 [k]) :: (sv [.n 6 (ax A.pt), .n 6 (ay A.pt), .b (ai A.pt)]) :: (sv [.n 6 (ax P.pt), .n 6 (ay P.pt), .b (ai P.pt)]) :: (nv 4 [k]) :: (nv 4 [c]) :: (sv [.n 6 (ax G.pt), .n 6 (ay G.pt), .b (ai G.pt)]) :: (sv [.n 6 (ax Z1.pt), .n 6 (ay Z1.pt), .b (ai Z1.pt)]) :: (sv [.n 6 (ax Z1.pt), .n 6 (ay Z1.pt), .b (ai Z1.pt)]) :: (.bool true) :: (.bool true) :: []), []⟩) 0 (fun _ => 0) (fun _ => 0) (fun _ => 0) (fun _ => []) (fun _ => []) [42, 43, 44, 45, 46, 47, 48, 49, 50, 51, 52, 53, 54, 55, 56, 4] (.inl ⟨rfl, by kernel_rfl⟩) (by kernel_rfl) rfl rfl rfl ?_ ?_)
  · refine GSteps.cons (gm_val (v := sv [.n 6 (ax P.pt), .n 6 (ay P.pt), .b (ai P.pt)]) rfl (fun _ => rfl) (fun _ => rfl) (fun γ w h => ex_loads 0 3 (m := [.n 6 (ax P.pt), .n 6 (ay P.pt), .b (ai P.pt)]) flG1 rfl rfl (A21.keep h.out) rfl rfl) rfl) ?_
    refine GSteps.cons (gm_call (v := .bool true) rfl (fun _ => rfl) (fun _ => rfl) (fun γ w => ex_call (vs := [sv [.n 6 (ax P.pt), .n 6 (ay P.pt), .b (ai P.pt)]]) rfl Try.call12 rfl) (fun w h => oneGroup_q P true ⟨fun _ => hT, fun _ => rfl⟩ _) rfl) ?_
    refine GSteps.cons (gm_val (v := .bool false) rfl (fun _ => rfl) (fun _ => rfl) (fun γ w h => ex_not (r := true) rfl) rfl) ?_
    refine GSteps.cons (gm_val (v := .bool false) rfl (fun _ => rfl) (fun _ => rfl) (fun γ w h => ex_move _) rfl) ?_
    refine GSteps.cons (gm_val (v := sv [.n 6 (ax P.pt), .n 6 (ay P.pt), .b (ai P.pt)]) rfl (fun _ => rfl) (fun _ => rfl) (fun γ w h => ex_loads 0 3 (m := [.n 6 (ax P.pt), .n 6 (ay P.pt), .b (ai P.pt)]) flG1 rfl rfl (A21.keep h.out) rfl rfl) rfl) ?_
    refine GSteps.cons (gm_val (v := nv 4 [k]) rfl (fun _ => rfl) (fun _ => rfl) (fun γ w h => ex_loadsn (K := 4) 0 1 (m := [k]) flFr rfl rfl (A22.keep h.out) rfl rfl) rfl) ?_
    refine GSteps.cons (gm_call (v := sv [.n 6 (ax A.pt), .n 6 (ay A.pt), .b (ai A.pt)]) rfl (fun _ => rfl) (fun _ => rfl) (fun γ w => ex_call (vs := [sv [.n 6 (ax P.pt), .n 6 (ay P.pt), .b (ai P.pt)], nv 4 [k]]) rfl Try.call21 rfl) (fun w h => onemul_v P A k hk hA.symm _) rfl) ?_
    refine GSteps.cons (gm_val (v := sv [.n 6 (ax P.pt), .n 6 (ay P.pt), .b (ai P.pt)]) rfl (fun _ => rfl) (fun _ => rfl) (fun γ w h => ex_loads 0 3 (m := [.n 6 (ax P.pt), .n 6 (ay P.pt), .b (ai P.pt)]) flG1 rfl rfl (A21.keep h.out) rfl rfl) rfl) ?_
    refine GSteps.cons (gm_val (v := nv 4 [k]) rfl (fun _ => rfl) (fun _ => rfl) (fun γ w h => ex_loadsn (K := 4) 0 1 (m := [k]) flFr rfl rfl (A22.keep h.out) rfl rfl) rfl) ?_
    refine GSteps.cons (gm_call (v := nv 4 [c]) rfl (fun _ => rfl) (fun _ => rfl) (fun γ w => ex_call (vs := [nv 4 [k]]) rfl Try.call26 rfl) (fun w h => frNeg_n k _ hk c hc) rfl) ?_
    refine GSteps.cons (gm_call (v := sv [.n 6 (ax G.pt), .n 6 (ay G.pt), .b (ai G.pt)]) rfl (fun _ => rfl) (fun _ => rfl) (fun γ w => ex_call (vs := [sv [.n 6 (ax P.pt), .n 6 (ay P.pt), .b (ai P.pt)], nv 4 [c]]) rfl Try.call21 rfl) (fun w h => onemul_v P G c (hc ▸ fr_modB _) hG.symm _) rfl) ?_
    refine GSteps.cons (gm_call (v := sv [.n 6 (ax Z1.pt), .n 6 (ay Z1.pt), .b (ai Z1.pt)]) rfl (fun _ => rfl) (fun _ => rfl) (fun γ w => ex_call (vs := [sv [.n 6 (ax A.pt), .n 6 (ay A.pt), .b (ai A.pt)], sv [.n 6 (ax G.pt), .n 6 (ay G.pt), .b (ai G.pt)]]) rfl Try.call19 rfl) (fun w h => oneadd_v A G Z1 (by rw [hA, hG, ← EP.times_add, ← EP.times_mod C1 hT, hc, neg_modR]; rfl) _) rfl) ?_
    refine GSteps.cons (gm_call (v := sv [.n 6 (ax Z1.pt), .n 6 (ay Z1.pt), .b (ai Z1.pt)]) rfl (fun _ => rfl) (fun _ => rfl) (fun γ w => ex_call (vs := []) rfl Try.call14 rfl) (fun w h => oneZero_p _) rfl) ?_
    refine GSteps.cons (gm_val (v := .bool true) rfl (fun _ => rfl) (fun _ => rfl) (fun γ w h => ex_eqs gdG1 eqG1 rfl rfl rfl (shG1_of (ax_B Z1.pt) (ay_B Z1.pt)) (shG1_of (ax_B Z1.pt) (ay_B Z1.pt)) true (by simp)) rfl) ?_
    refine GSteps.cons (gm_val (v := .bool true) rfl (fun _ => rfl) (fun _ => rfl) (fun γ w h => ex_pick (r := false) rfl) rfl) ?_
    refine GSteps.cons (gm_val (v := .bool true) rfl (fun _ => rfl) (fun _ => rfl) (fun γ w h => ex_assign _) rfl) ?_
    exact GSteps.nil
  intro _ w26 hb26 _ _
  refine th_r ?_
  have A27 := A21.keep hb26.out
  have A28 := A22.keep hb26.out
  have A29 := A23.keep hb26.out
  have A30 := A24.keep hb26.out
  have HB31 := below_then HB25 hb26.out
  exact wp_ret (bodyPost_ret (ret1 Try.results8 (res_tmp rfl)) rfl ⟨rfl, HB31⟩)

theorem oneNegs_v (x : Nat) (y : Nat) (i : Bool) (hx : x < fpB) (hy : y < fpB) (k : Nat) (hk : k < frB) (w : World) :
    Calls Try.prog 8 #[sv [.n 6 x, .n 6 y, .b i], nv 4 [k]] w (Is (.bool true) w) := by
  by_cases o : RawOk x y i
  · obtain ⟨P, rfl, rfl, rfl⟩ := o
    by_cases hT : EP.times C1 rN P = EP.zero
    · exact oneNegs_1 P hT k hk w
    · exact oneNegs_0 P hT k hk w
  · exact oneNegs_n x y i hx hy o k w

end Go.Proofs.Yticglgegfebnjaa

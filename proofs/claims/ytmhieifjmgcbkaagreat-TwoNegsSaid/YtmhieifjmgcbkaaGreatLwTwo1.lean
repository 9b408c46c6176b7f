/- What is proved here: the laws of package two: sums and their order. -/
import Derived.Test.YtmhieifjmgcbkaaGreatTwo3
namespace Go.Proofs.YtmhieifjmgcbkaaGreat
open Go.RowKit Cv

set_option maxRecDepth 20000 in
set_option maxHeartbeats 4000000 in
theorem twoalive_v (w : World) :
    Calls Tryz.prog 11 #[] w (Is (.bool true) w) := by
  go_enter Tryz.func11, Tryz.ntmps11
  refine wp_seq (region_m (F := fun _ => ⟨#[.bool false, undef, undef, undef, undef, undef, undef, undef, undef], []⟩) 0 (fun _ => 0) (fun _ => 0) (fun _ => 0) (fun _ => []) (fun _ => []) [0] (.inr ⟨rfl, by kernel_rfl⟩) (by kernel_rfl) rfl rfl rfl ?_ ?_)
  · refine GSteps.cons (gm_val (v := .bool false) rfl (fun _ => rfl) (fun _ => rfl) (fun γ w h => ex_assign _) rfl) ?_
    exact GSteps.nil
  intro _ w1 hb1 _ _
  refine th_r ?_
  have HB2 := below_then (Below.refl w.heap.size w) hb1.out
  refine wp_seq (region_m (F := fun _ => ⟨#[.bool true, sv [.n 6 g2xa, .n 6 g2xb, .n 6 g2ya, .n 6 g2yb, .b false], sv [.n 6 g2xa, .n 6 g2xb, .n 6 g2ya, .n 6 g2yb, .b false], .bool true, .bool true, sv [.n 6 0, .n 6 0, .n 6 0, .n 6 0, .b true], sv [.n 6 0, .n 6 0, .n 6 0, .n 6 0, .b true], .bool true, .bool true], []⟩) 0 (fun _ => 0) (fun _ => 0) (fun _ => 0) (fun _ => []) (fun _ => []) [1, 2, 3, 4, 5, 6, 7, 8, 0] (.inr ⟨rfl, by kernel_rfl⟩) (by kernel_rfl) rfl rfl rfl ?_ ?_)
  · refine GSteps.cons (gm_call (v := sv [.n 6 g2xa, .n 6 g2xb, .n 6 g2ya, .n 6 g2yb, .b false]) rfl (fun _ => rfl) (fun _ => rfl) (fun γ w => ex_call (vs := []) rfl Tryz.call31 rfl) (fun w h => twoGen_v _) rfl) ?_
    refine GSteps.cons (gm_call (v := sv [.n 6 g2xa, .n 6 g2xb, .n 6 g2ya, .n 6 g2yb, .b false]) rfl (fun _ => rfl) (fun _ => rfl) (fun γ w => ex_call (vs := [.int .i64 0]) rfl Tryz.call32 rfl) (fun w h => r9Some_v _) rfl) ?_
    refine GSteps.cons (gm_val (v := .bool true) rfl (fun _ => rfl) (fun _ => rfl) (fun γ w h => ex_eqs gdG2 eqG2 rfl rfl rfl (shG2_of g2xa_B g2xb_B g2ya_B g2yb_B) (shG2_of g2xa_B g2xb_B g2ya_B g2yb_B) true (by simp)) rfl) ?_
    refine GSteps.cons (gm_val (v := .bool true) rfl (fun _ => rfl) (fun _ => rfl) (fun γ w h => ex_move _) rfl) ?_
    refine GSteps.cons (gm_call (v := sv [.n 6 0, .n 6 0, .n 6 0, .n 6 0, .b true]) rfl (fun _ => rfl) (fun _ => rfl) (fun γ w => ex_call (vs := []) rfl Tryz.call14 rfl) (fun w h => twoZero_v _) rfl) ?_
    refine GSteps.cons (gm_val (v := sv [.n 6 0, .n 6 0, .n 6 0, .n 6 0, .b true]) rfl (fun _ => rfl) (fun _ => rfl) (fun γ w h => ex_builds stG2 (l := [.n 6 0, .n 6 0, .n 6 0, .n 6 0, .b true]) (vs := [(2, .bool true)]) rfl ((fills_cons 4 1 (m := [.b true]) (z' := [.n 6 0, .n 6 0, .n 6 0, .n 6 0, .b true]) rfl (bool_cells true) rfl rfl rfl rfl).trans rfl)) rfl) ?_
    refine GSteps.cons (gm_val (v := .bool true) rfl (fun _ => rfl) (fun _ => rfl) (fun γ w h => ex_eqs gdG2 eqG2 rfl rfl rfl (shG2_of zero_B zero_B zero_B zero_B) (shG2_of zero_B zero_B zero_B zero_B) true (by simp)) rfl) ?_
    refine GSteps.cons (gm_val (v := .bool true) rfl (fun _ => rfl) (fun _ => rfl) (fun γ w h => ex_pick (r := true) rfl) rfl) ?_
    refine GSteps.cons (gm_val (v := .bool true) rfl (fun _ => rfl) (fun _ => rfl) (fun γ w h => ex_assign _) rfl) ?_
    exact GSteps.nil
  intro _ w3 hb3 _ _
  refine th_r ?_
  have HB4 := below_then HB2 hb3.out
  exact wp_ret (bodyPost_ret (ret1 Tryz.results11 (res_tmp rfl)) rfl ⟨rfl, HB4⟩)

set_option maxRecDepth 20000 in
set_option maxHeartbeats 4000000 in
theorem twoadd_v (P Q R : E2) (hs : P.add C2 Q = R) (w : World) :
    Calls Tryz.prog 15 #[sv [.n 6 (bx0 P.pt), .n 6 (bx1 P.pt), .n 6 (by0 P.pt), .n 6 (by1 P.pt), .b (bi P.pt)], sv [.n 6 (bx0 Q.pt), .n 6 (bx1 Q.pt), .n 6 (by0 Q.pt), .n 6 (by1 Q.pt), .b (bi Q.pt)]] w (Is (sv [.n 6 (bx0 R.pt), .n 6 (bx1 R.pt), .n 6 (by0 R.pt), .n 6 (by1 R.pt), .b (bi R.pt)]) w) := by
  go_enter Tryz.func15, Tryz.ntmps15
  refine wp_seq (region_m (F := fun γ => ⟨#[sv [.n 6 (bx0 P.pt), .n 6 (bx1 P.pt), .n 6 (by0 P.pt), .n 6 (by1 P.pt), .b (bi P.pt)], sv [.n 6 (bx0 Q.pt), .n 6 (bx1 Q.pt), .n 6 (by0 Q.pt), .n 6 (by1 Q.pt), .b (bi Q.pt)], .pointer (some ⟨γ 0, 0, none⟩), .pointer (some ⟨γ 1, 0, none⟩), .pointer (some ⟨γ 2, 0, none⟩), undef, undef, undef, undef, undef, undef, undef, undef, undef], []⟩) 3 (fun j_ => match j_ with | 0 => 28 | 1 => 28 | _ => 28) (fun j_ => match j_ with | 0 => 0 | 1 => 1 | _ => 2) (fun j_ => match j_ with | 0 => 0 | 1 => 1 | _ => 2) (fun j_ => match j_ with | 0 => segs [.n 6 (bx0 P.pt), .n 6 (bx1 P.pt), .n 6 (by0 P.pt), .n 6 (by1 P.pt), .b (bi P.pt)] | 1 => segs [.n 6 (bx0 Q.pt), .n 6 (bx1 Q.pt), .n 6 (by0 Q.pt), .n 6 (by1 Q.pt), .b (bi Q.pt)] | _ => segs [.n 6 0, .n 6 0, .n 6 0, .n 6 0, .b false]) (fun j_ => match j_ with | 0 => segs [.n 6 (bx0 P.pt), .n 6 (bx1 P.pt), .n 6 (by0 P.pt), .n 6 (by1 P.pt), .b (bi P.pt)] | 1 => segs [.n 6 (bx0 Q.pt), .n 6 (bx1 Q.pt), .n 6 (by0 Q.pt), .n 6 (by1 Q.pt), .b (bi Q.pt)] | _ => segs [.n 6 0, .n 6 0, .n 6 0, .n 6 0, .b false]) [2, 3, 4] (.inr ⟨rfl, by kernel_rfl⟩) (by kernel_rfl) rfl rfl rfl ?_ ?_)
  · refine GSteps.cons (gm_box 0 rfl (fun _ => rfl) (fun _ _ => rfl) (fun γ w h => ex_boxs (l := [.n 6 (bx0 P.pt), .n 6 (bx1 P.pt), .n 6 (by0 P.pt), .n 6 (by1 P.pt), .b (bi P.pt)]) rfl) rfl rfl rfl) ?_
    refine GSteps.cons (gm_box 1 rfl (fun _ => rfl) (fun _ _ => rfl) (fun γ w h => ex_boxs (l := [.n 6 (bx0 Q.pt), .n 6 (bx1 Q.pt), .n 6 (by0 Q.pt), .n 6 (by1 Q.pt), .b (bi Q.pt)]) rfl) rfl rfl rfl) ?_
    refine GSteps.cons (gm_box 2 rfl (fun _ => rfl) (fun _ _ => rfl) (fun γ w h => ex_allocs (l := [.n 6 0, .n 6 0, .n 6 0, .n 6 0, .b false]) zG2) rfl rfl rfl) ?_
    exact GSteps.nil
  intro γ1 w1 hb1 hB1 hn1
  refine th_r ?_
  have A2 : SB 28 w1 (γ1 0) [.n 6 (bx0 P.pt), .n 6 (bx1 P.pt), .n 6 (by0 P.pt), .n 6 (by1 P.pt), .b (bi P.pt)] := (hB1 0 (by decide)).2
  have le2 := (hB1 0 (by decide)).1
  have A3 : SB 28 w1 (γ1 1) [.n 6 (bx0 Q.pt), .n 6 (bx1 Q.pt), .n 6 (by0 Q.pt), .n 6 (by1 Q.pt), .b (bi Q.pt)] := (hB1 1 (by decide)).2
  have le3 := (hB1 1 (by decide)).1
  have A4 : SB 28 w1 (γ1 2) [.n 6 0, .n 6 0, .n 6 0, .n 6 0, .b false] := (hB1 2 (by decide)).2
  have le4 := (hB1 2 (by decide)).1
  have HB5 := below_then (Below.refl w.heap.size w) hb1.out
  refine wp_seq (region_m (F := fun γ => ⟨#[sv [.n 6 (bx0 P.pt), .n 6 (bx1 P.pt), .n 6 (by0 P.pt), .n 6 (by1 P.pt), .b (bi P.pt)], sv [.n 6 (bx0 Q.pt), .n 6 (bx1 Q.pt), .n 6 (by0 Q.pt), .n 6 (by1 Q.pt), .b (bi Q.pt)], .pointer (some ⟨(γ1 0), 0, none⟩), .pointer (some ⟨(γ1 1), 0, none⟩), .pointer (some ⟨(γ1 2), 0, none⟩), .pointer (some ⟨γ 0, 0, none⟩), .int .i64 0, .tuple #[sv [.n 6 (bx0 R.pt), .n 6 (bx1 R.pt), .n 6 (by0 R.pt), .n 6 (by1 R.pt), .b (bi R.pt)], .int .i64 0], sv [.n 6 (bx0 P.pt), .n 6 (bx1 P.pt), .n 6 (by0 P.pt), .n 6 (by1 P.pt), .b (bi P.pt)], sv [.n 6 (bx0 Q.pt), .n 6 (bx1 Q.pt), .n 6 (by0 Q.pt), .n 6 (by1 Q.pt), .b (bi Q.pt)], .tuple #[sv [.n 6 (bx0 R.pt), .n 6 (bx1 R.pt), .n 6 (by0 R.pt), .n 6 (by1 R.pt), .b (bi R.pt)], .int .i64 0], sv [.n 6 (bx0 R.pt), .n 6 (bx1 R.pt), .n 6 (by0 R.pt), .n 6 (by1 R.pt), .b (bi R.pt)], .int .i64 0, undef], []⟩) 1 (fun _ => 28) (fun _ => 6) (fun _ => 7) (fun _ => segs [.n 6 0, .n 6 0, .n 6 0, .n 6 0, .b false]) (fun _ => segs [.n 6 (bx0 R.pt), .n 6 (bx1 R.pt), .n 6 (by0 R.pt), .n 6 (by1 R.pt), .b (bi R.pt)]) [8, 9, 10, 7, 11, 12, 5, 6] (.inr ⟨rfl, by kernel_rfl⟩) (by kernel_rfl) rfl rfl rfl ?_ ?_)
  · refine GSteps.cons (gm_val (v := sv [.n 6 (bx0 P.pt), .n 6 (bx1 P.pt), .n 6 (by0 P.pt), .n 6 (by1 P.pt), .b (bi P.pt)]) rfl (fun _ => rfl) (fun _ => rfl) (fun γ w h => ex_loads 0 5 (m := [.n 6 (bx0 P.pt), .n 6 (bx1 P.pt), .n 6 (by0 P.pt), .n 6 (by1 P.pt), .b (bi P.pt)]) flG2 rfl rfl (A2.keep h.out) rfl rfl) rfl) ?_
    refine GSteps.cons (gm_val (v := sv [.n 6 (bx0 Q.pt), .n 6 (bx1 Q.pt), .n 6 (by0 Q.pt), .n 6 (by1 Q.pt), .b (bi Q.pt)]) rfl (fun _ => rfl) (fun _ => rfl) (fun γ w h => ex_loads 0 5 (m := [.n 6 (bx0 Q.pt), .n 6 (bx1 Q.pt), .n 6 (by0 Q.pt), .n 6 (by1 Q.pt), .b (bi Q.pt)]) flG2 rfl rfl (A3.keep h.out) rfl rfl) rfl) ?_
    refine GSteps.cons (gm_call (v := .tuple #[sv [.n 6 (bx0 R.pt), .n 6 (bx1 R.pt), .n 6 (by0 R.pt), .n 6 (by1 R.pt), .b (bi R.pt)], .int .i64 0]) rfl (fun _ => rfl) (fun _ => rfl) (fun γ w => ex_call (vs := [sv [.n 6 (bx0 P.pt), .n 6 (bx1 P.pt), .n 6 (by0 P.pt), .n 6 (by1 P.pt), .b (bi P.pt)], sv [.n 6 (bx0 Q.pt), .n 6 (bx1 Q.pt), .n 6 (by0 Q.pt), .n 6 (by1 Q.pt), .b (bi Q.pt)]]) rfl Tryz.call7 rfl) (fun w h => twoAdd_p P Q R hs _) rfl) ?_
    refine GSteps.cons (gm_val (v := .tuple #[sv [.n 6 (bx0 R.pt), .n 6 (bx1 R.pt), .n 6 (by0 R.pt), .n 6 (by1 R.pt), .b (bi R.pt)], .int .i64 0]) rfl (fun _ => rfl) (fun _ => rfl) (fun γ w h => ex_move _) rfl) ?_
    refine GSteps.cons (gm_val (v := sv [.n 6 (bx0 R.pt), .n 6 (bx1 R.pt), .n 6 (by0 R.pt), .n 6 (by1 R.pt), .b (bi R.pt)]) rfl (fun _ => rfl) (fun _ => rfl) (fun γ w h => ex_extract (vs := [sv [.n 6 (bx0 R.pt), .n 6 (bx1 R.pt), .n 6 (by0 R.pt), .n 6 (by1 R.pt), .b (bi R.pt)], .int .i64 0]) rfl rfl) rfl) ?_
    refine GSteps.cons (gm_val (v := .int .i64 0) rfl (fun _ => rfl) (fun _ => rfl) (fun γ w h => ex_extract (vs := [sv [.n 6 (bx0 R.pt), .n 6 (bx1 R.pt), .n 6 (by0 R.pt), .n 6 (by1 R.pt), .b (bi R.pt)], .int .i64 0]) rfl rfl) rfl) ?_
    refine GSteps.cons (gm_new 0 rfl (fun _ => rfl) (fun _ _ => rfl) (fun γ w => ex_allocs (l := [.n 6 0, .n 6 0, .n 6 0, .n 6 0, .b false]) zG2) rfl (by kernel_rfl)) ?_
    refine GSteps.cons (gm_store 0 rfl rfl (fun _ => rfl) (len_segs (l := [.n 6 (bx0 R.pt), .n 6 (bx1 R.pt), .n 6 (by0 R.pt), .n 6 (by1 R.pt), .b (bi R.pt)]) (l' := [.n 6 0, .n 6 0, .n 6 0, .n 6 0, .b false]) rfl) (fun γ w h => ex_stores 0 5 (l := [.n 6 0, .n 6 0, .n 6 0, .n 6 0, .b false]) (m := [.n 6 (bx0 R.pt), .n 6 (bx1 R.pt), .n 6 (by0 R.pt), .n 6 (by1 R.pt), .b (bi R.pt)]) flG2.2 rfl rfl rfl rfl h rfl rfl) rfl rfl (by kernel_rfl)) ?_
    refine GSteps.cons (gm_val (v := .int .i64 0) rfl (fun _ => rfl) (fun _ => rfl) (fun γ w h => ex_assign _) rfl) ?_
    exact GSteps.nil
  intro γ6 w6 hb6 hB6 _
  refine th_r ?_
  have A7 := A2.keep hb6.out
  have A8 := A3.keep hb6.out
  have A9 := A4.keep hb6.out
  have A10 : SB 28 w6 (γ6 0) [.n 6 (bx0 R.pt), .n 6 (bx1 R.pt), .n 6 (by0 R.pt), .n 6 (by1 R.pt), .b (bi R.pt)] := (hB6 0 (by decide)).2
  have le10 := (hB6 0 (by decide)).1
  have HB11 := below_then HB5 hb6.out
  refine wp_seq (region_ms (F := fun _ => ⟨#[sv [.n 6 (bx0 P.pt), .n 6 (bx1 P.pt), .n 6 (by0 P.pt), .n 6 (by1 P.pt), .b (bi P.pt)], sv [.n 6 (bx0 Q.pt), .n 6 (bx1 Q.pt), .n 6 (by0 Q.pt), .n 6 (by1 Q.pt), .b (bi Q.pt)], .pointer (some ⟨(γ1 0), 0, none⟩), .pointer (some ⟨(γ1 1), 0, none⟩), .pointer (some ⟨(γ1 2), 0, none⟩), .pointer (some ⟨(γ6 0), 0, none⟩), .int .i64 0, .tuple #[sv [.n 6 (bx0 R.pt), .n 6 (bx1 R.pt), .n 6 (by0 R.pt), .n 6 (by1 R.pt), .b (bi R.pt)], .int .i64 0], sv [.n 6 (bx0 P.pt), .n 6 (bx1 P.pt), .n 6 (by0 P.pt), .n 6 (by1 P.pt), .b (bi P.pt)], sv [.n 6 (bx0 Q.pt), .n 6 (bx1 Q.pt), .n 6 (by0 Q.pt), .n 6 (by1 Q.pt), .b (bi Q.pt)], .tuple #[sv [.n 6 (bx0 R.pt), .n 6 (bx1 R.pt), .n 6 (by0 R.pt), .n 6 (by1 R.pt), .b (bi R.pt)], .int .i64 0], sv [.n 6 (bx0 R.pt), .n 6 (bx1 R.pt), .n 6 (by0 R.pt), .n 6 (by1 R.pt), .b (bi R.pt)], .int .i64 0, sv [.n 6 (bx0 R.pt), .n 6 (bx1 R.pt), .n 6 (by0 R.pt), .n 6 (by1 R.pt), .b (bi R.pt)]], []⟩) 1 ((γ1 2)) 0 (segs [.n 6 (bx0 R.pt), .n 6 (bx1 R.pt), .n 6 (by0 R.pt), .n 6 (by1 R.pt), .b (bi R.pt)]) 0 (fun _ => 0) (fun _ => 0) (fun _ => 0) (fun _ => []) (fun _ => []) [13] (.inr ⟨rfl, by kernel_rfl⟩) (by kernel_rfl) rfl rfl rfl ?_ ?_)
  · refine GSteps.cons (late_step (gm_val (v := sv [.n 6 (bx0 R.pt), .n 6 (bx1 R.pt), .n 6 (by0 R.pt), .n 6 (by1 R.pt), .b (bi R.pt)]) rfl (fun _ => rfl) (fun _ => rfl) (fun γ w h => ex_loads 0 5 (m := [.n 6 (bx0 R.pt), .n 6 (bx1 R.pt), .n 6 (by0 R.pt), .n 6 (by1 R.pt), .b (bi R.pt)]) flG2 rfl rfl (A10.keep h.out) rfl rfl) rfl) (by kernel_rfl) rfl) ?_
    refine GSteps.cons (late_store rfl (fun _ => rfl) (fun γ w h => ex_stores 0 5 (l := [.n 6 0, .n 6 0, .n 6 0, .n 6 0, .b false]) (m := [.n 6 (bx0 R.pt), .n 6 (bx1 R.pt), .n 6 (by0 R.pt), .n 6 (by1 R.pt), .b (bi R.pt)]) flG2.2 rfl rfl rfl rfl (A9.keep h.out) rfl rfl) rfl) ?_
    exact GSteps.nil
  intro _ w12 w12_ hb12 _ _ hs12
  refine th_r ?_
  have A13 := A7.keep hb12.out
  have A14 := A8.keep hb12.out
  have A15 := A9.keep hb12.out
  have A16 := A10.keep hb12.out
  have HB17 := below_then HB11 hb12.out
  have A18 := hs12.other (hn1 0 2 (by decide) (by decide) (by decide)) A13
  have A19 := hs12.other (hn1 1 2 (by decide) (by decide) (by decide)) A14
  have A20 := hs12.here 0 5 (l' := [.n 6 (bx0 R.pt), .n 6 (bx1 R.pt), .n 6 (by0 R.pt), .n 6 (by1 R.pt), .b (bi R.pt)]) A15 rfl rfl rfl
  have A21 := hs12.other (Ne.symm (Nat.ne_of_lt (Nat.lt_of_lt_of_le A4.lt le10))) A16
  have HB22 := hs12.below HB17 (Nat.le_trans (Nat.le_refl _) le4)
  exact wp_ret (bodyPost_ret (ret1 Tryz.results15 (res_sv rfl A20 flG2 rfl)) rfl ⟨rfl, HB22⟩)

set_option maxRecDepth 20000 in
set_option maxHeartbeats 4000000 in
theorem twomul_v (P R : E2) (k : Nat) (hk : k < frB) (hs : EP.times C2 k P = R) (w : World) :
    Calls Tryz.prog 16 #[sv [.n 6 (bx0 P.pt), .n 6 (bx1 P.pt), .n 6 (by0 P.pt), .n 6 (by1 P.pt), .b (bi P.pt)], nv 4 [k]] w (Is (sv [.n 6 (bx0 R.pt), .n 6 (bx1 R.pt), .n 6 (by0 R.pt), .n 6 (by1 R.pt), .b (bi R.pt)]) w) := by
  go_enter Tryz.func16, Tryz.ntmps16
  refine wp_seq (region_m (F := fun γ => ⟨#[sv [.n 6 (bx0 P.pt), .n 6 (bx1 P.pt), .n 6 (by0 P.pt), .n 6 (by1 P.pt), .b (bi P.pt)], nv 4 [k], .pointer (some ⟨γ 0, 0, none⟩), .pointer (some ⟨γ 1, 0, none⟩), .pointer (some ⟨γ 2, 0, none⟩), undef, undef, undef, undef, undef, undef, undef, undef, undef], []⟩) 3 (fun j_ => match j_ with | 0 => 28 | 1 => 41 | _ => 28) (fun j_ => match j_ with | 0 => 0 | 1 => 1 | _ => 2) (fun j_ => match j_ with | 0 => 0 | 1 => 1 | _ => 2) (fun j_ => match j_ with | 0 => segs [.n 6 (bx0 P.pt), .n 6 (bx1 P.pt), .n 6 (by0 P.pt), .n 6 (by1 P.pt), .b (bi P.pt)] | 1 => segs [.n 4 k] | _ => segs [.n 6 0, .n 6 0, .n 6 0, .n 6 0, .b false]) (fun j_ => match j_ with | 0 => segs [.n 6 (bx0 P.pt), .n 6 (bx1 P.pt), .n 6 (by0 P.pt), .n 6 (by1 P.pt), .b (bi P.pt)] | 1 => segs [.n 4 k] | _ => segs [.n 6 0, .n 6 0, .n 6 0, .n 6 0, .b false]) [2, 3, 4] (.inr ⟨rfl, by kernel_rfl⟩) (by kernel_rfl) rfl rfl rfl ?_ ?_)
  · refine GSteps.cons (gm_box 0 rfl (fun _ => rfl) (fun _ _ => rfl) (fun γ w h => ex_boxs (l := [.n 6 (bx0 P.pt), .n 6 (bx1 P.pt), .n 6 (by0 P.pt), .n 6 (by1 P.pt), .b (bi P.pt)]) rfl) rfl rfl rfl) ?_
    refine GSteps.cons (gm_box 1 rfl (fun _ => rfl) (fun _ _ => rfl) (fun γ w h => ex_boxsn (K := 4) (l := [k]) rfl) rfl rfl rfl) ?_
    refine GSteps.cons (gm_box 2 rfl (fun _ => rfl) (fun _ _ => rfl) (fun γ w h => ex_allocs (l := [.n 6 0, .n 6 0, .n 6 0, .n 6 0, .b false]) zG2) rfl rfl rfl) ?_
    exact GSteps.nil
  intro γ1 w1 hb1 hB1 hn1
  refine th_r ?_
  have A2 : SB 28 w1 (γ1 0) [.n 6 (bx0 P.pt), .n 6 (bx1 P.pt), .n 6 (by0 P.pt), .n 6 (by1 P.pt), .b (bi P.pt)] := (hB1 0 (by decide)).2
  have le2 := (hB1 0 (by decide)).1
  have A3 : SB 41 w1 (γ1 1) [.n 4 k] := (hB1 1 (by decide)).2
  have le3 := (hB1 1 (by decide)).1
  have A4 : SB 28 w1 (γ1 2) [.n 6 0, .n 6 0, .n 6 0, .n 6 0, .b false] := (hB1 2 (by decide)).2
  have le4 := (hB1 2 (by decide)).1
  have HB5 := below_then (Below.refl w.heap.size w) hb1.out
  refine wp_seq (region_m (F := fun γ => ⟨#[sv [.n 6 (bx0 P.pt), .n 6 (bx1 P.pt), .n 6 (by0 P.pt), .n 6 (by1 P.pt), .b (bi P.pt)], nv 4 [k], .pointer (some ⟨(γ1 0), 0, none⟩), .pointer (some ⟨(γ1 1), 0, none⟩), .pointer (some ⟨(γ1 2), 0, none⟩), .pointer (some ⟨γ 0, 0, none⟩), .int .i64 0, .tuple #[sv [.n 6 (bx0 R.pt), .n 6 (bx1 R.pt), .n 6 (by0 R.pt), .n 6 (by1 R.pt), .b (bi R.pt)], .int .i64 0], sv [.n 6 (bx0 P.pt), .n 6 (bx1 P.pt), .n 6 (by0 P.pt), .n 6 (by1 P.pt), .b (bi P.pt)], nv 4 [k], .tuple #[sv [.n 6 (bx0 R.pt), .n 6 (bx1 R.pt), .n 6 (by0 R.pt), .n 6 (by1 R.pt), .b (bi R.pt)], .int .i64 0], sv [.n 6 (bx0 R.pt), .n 6 (bx1 R.pt), .n 6 (by0 R.pt), .n 6 (by1 R.pt), .b (bi R.pt)], .int .i64 0, undef], []⟩) 1 (fun _ => 28) (fun _ => 6) (fun _ => 7) (fun _ => segs [.n 6 0, .n 6 0, .n 6 0, .n 6 0, .b false]) (fun _ => segs [.n 6 (bx0 R.pt), .n 6 (bx1 R.pt), .n 6 (by0 R.pt), .n 6 (by1 R.pt), .b (bi R.pt)]) [8, 9, 10, 7, 11, 12, 5, 6] (.inr ⟨rfl, by kernel_rfl⟩) (by kernel_rfl) rfl rfl rfl ?_ ?_)
  · refine GSteps.cons (gm_val (v := sv [.n 6 (bx0 P.pt), .n 6 (bx1 P.pt), .n 6 (by0 P.pt), .n 6 (by1 P.pt), .b (bi P.pt)]) rfl (fun _ => rfl) (fun _ => rfl) (fun γ w h => ex_loads 0 5 (m := [.n 6 (bx0 P.pt), .n 6 (bx1 P.pt), .n 6 (by0 P.pt), .n 6 (by1 P.pt), .b (bi P.pt)]) flG2 rfl rfl (A2.keep h.out) rfl rfl) rfl) ?_
    refine GSteps.cons (gm_val (v := nv 4 [k]) rfl (fun _ => rfl) (fun _ => rfl) (fun γ w h => ex_loadsn (K := 4) 0 1 (m := [k]) flFr rfl rfl (A3.keep h.out) rfl rfl) rfl) ?_
    refine GSteps.cons (gm_call (v := .tuple #[sv [.n 6 (bx0 R.pt), .n 6 (bx1 R.pt), .n 6 (by0 R.pt), .n 6 (by1 R.pt), .b (bi R.pt)], .int .i64 0]) rfl (fun _ => rfl) (fun _ => rfl) (fun γ w => ex_call (vs := [sv [.n 6 (bx0 P.pt), .n 6 (bx1 P.pt), .n 6 (by0 P.pt), .n 6 (by1 P.pt), .b (bi P.pt)], nv 4 [k]]) rfl Tryz.call13 rfl) (fun w h => twoMul_p P R k hk hs _) rfl) ?_
    refine GSteps.cons (gm_val (v := .tuple #[sv [.n 6 (bx0 R.pt), .n 6 (bx1 R.pt), .n 6 (by0 R.pt), .n 6 (by1 R.pt), .b (bi R.pt)], .int .i64 0]) rfl (fun _ => rfl) (fun _ => rfl) (fun γ w h => ex_move _) rfl) ?_
    refine GSteps.cons (gm_val (v := sv [.n 6 (bx0 R.pt), .n 6 (bx1 R.pt), .n 6 (by0 R.pt), .n 6 (by1 R.pt), .b (bi R.pt)]) rfl (fun _ => rfl) (fun _ => rfl) (fun γ w h => ex_extract (vs := [sv [.n 6 (bx0 R.pt), .n 6 (bx1 R.pt), .n 6 (by0 R.pt), .n 6 (by1 R.pt), .b (bi R.pt)], .int .i64 0]) rfl rfl) rfl) ?_
    refine GSteps.cons (gm_val (v := .int .i64 0) rfl (fun _ => rfl) (fun _ => rfl) (fun γ w h => ex_extract (vs := [sv [.n 6 (bx0 R.pt), .n 6 (bx1 R.pt), .n 6 (by0 R.pt), .n 6 (by1 R.pt), .b (bi R.pt)], .int .i64 0]) rfl rfl) rfl) ?_
    refine GSteps.cons (gm_new 0 rfl (fun _ => rfl) (fun _ _ => rfl) (fun γ w => ex_allocs (l := [.n 6 0, .n 6 0, .n 6 0, .n 6 0, .b false]) zG2) rfl (by kernel_rfl)) ?_
    refine GSteps.cons (gm_store 0 rfl rfl (fun _ => rfl) (len_segs (l := [.n 6 (bx0 R.pt), .n 6 (bx1 R.pt), .n 6 (by0 R.pt), .n 6 (by1 R.pt), .b (bi R.pt)]) (l' := [.n 6 0, .n 6 0, .n 6 0, .n 6 0, .b false]) rfl) (fun γ w h => ex_stores 0 5 (l := [.n 6 0, .n 6 0, .n 6 0, .n 6 0, .b false]) (m := [.n 6 (bx0 R.pt), .n 6 (bx1 R.pt), .n 6 (by0 R.pt), .n 6 (by1 R.pt), .b (bi R.pt)]) flG2.2 rfl rfl rfl rfl h rfl rfl) rfl rfl (by kernel_rfl)) ?_
    refine GSteps.cons (gm_val (v := .int .i64 0) rfl (fun _ => rfl) (fun _ => rfl) (fun γ w h => ex_assign _) rfl) ?_
    exact GSteps.nil
  intro γ6 w6 hb6 hB6 _
  refine th_r ?_
  have A7 := A2.keep hb6.out
  have A8 := A3.keep hb6.out
  have A9 := A4.keep hb6.out
  have A10 : SB 28 w6 (γ6 0) [.n 6 (bx0 R.pt), .n 6 (bx1 R.pt), .n 6 (by0 R.pt), .n 6 (by1 R.pt), .b (bi R.pt)] := (hB6 0 (by decide)).2
  have le10 := (hB6 0 (by decide)).1
  have HB11 := below_then HB5 hb6.out
  refine wp_seq (region_ms (F := fun _ => ⟨#[sv [.n 6 (bx0 P.pt), .n 6 (bx1 P.pt), .n 6 (by0 P.pt), .n 6 (by1 P.pt), .b (bi P.pt)], nv 4 [k], .pointer (some ⟨(γ1 0), 0, none⟩), .pointer (some ⟨(γ1 1), 0, none⟩), .pointer (some ⟨(γ1 2), 0, none⟩), .pointer (some ⟨(γ6 0), 0, none⟩), .int .i64 0, .tuple #[sv [.n 6 (bx0 R.pt), .n 6 (bx1 R.pt), .n 6 (by0 R.pt), .n 6 (by1 R.pt), .b (bi R.pt)], .int .i64 0], sv [.n 6 (bx0 P.pt), .n 6 (bx1 P.pt), .n 6 (by0 P.pt), .n 6 (by1 P.pt), .b (bi P.pt)], nv 4 [k], .tuple #[sv [.n 6 (bx0 R.pt), .n 6 (bx1 R.pt), .n 6 (by0 R.pt), .n 6 (by1 R.pt), .b (bi R.pt)], .int .i64 0], sv [.n 6 (bx0 R.pt), .n 6 (bx1 R.pt), .n 6 (by0 R.pt), .n 6 (by1 R.pt), .b (bi R.pt)], .int .i64 0, sv [.n 6 (bx0 R.pt), .n 6 (bx1 R.pt), .n 6 (by0 R.pt), .n 6 (by1 R.pt), .b (bi R.pt)]], []⟩) 1 ((γ1 2)) 0 (segs [.n 6 (bx0 R.pt), .n 6 (bx1 R.pt), .n 6 (by0 R.pt), .n 6 (by1 R.pt), .b (bi R.pt)]) 0 (fun _ => 0) (fun _ => 0) (fun _ => 0) (fun _ => []) (fun _ => []) [13] (.inr ⟨rfl, by kernel_rfl⟩) (by kernel_rfl) rfl rfl rfl ?_ ?_)
  · refine GSteps.cons (late_step (gm_val (v := sv [.n 6 (bx0 R.pt), .n 6 (bx1 R.pt), .n 6 (by0 R.pt), .n 6 (by1 R.pt), .b (bi R.pt)]) rfl (fun _ => rfl) (fun _ => rfl) (fun γ w h => ex_loads 0 5 (m := [.n 6 (bx0 R.pt), .n 6 (bx1 R.pt), .n 6 (by0 R.pt), .n 6 (by1 R.pt), .b (bi R.pt)]) flG2 rfl rfl (A10.keep h.out) rfl rfl) rfl) (by kernel_rfl) rfl) ?_
    refine GSteps.cons (late_store rfl (fun _ => rfl) (fun γ w h => ex_stores 0 5 (l := [.n 6 0, .n 6 0, .n 6 0, .n 6 0, .b false]) (m := [.n 6 (bx0 R.pt), .n 6 (bx1 R.pt), .n 6 (by0 R.pt), .n 6 (by1 R.pt), .b (bi R.pt)]) flG2.2 rfl rfl rfl rfl (A9.keep h.out) rfl rfl) rfl) ?_
    exact GSteps.nil
  intro _ w12 w12_ hb12 _ _ hs12
  refine th_r ?_
  have A13 := A7.keep hb12.out
  have A14 := A8.keep hb12.out
  have A15 := A9.keep hb12.out
  have A16 := A10.keep hb12.out
  have HB17 := below_then HB11 hb12.out
  have A18 := hs12.other (hn1 0 2 (by decide) (by decide) (by decide)) A13
  have A19 := hs12.other (hn1 1 2 (by decide) (by decide) (by decide)) A14
  have A20 := hs12.here 0 5 (l' := [.n 6 (bx0 R.pt), .n 6 (bx1 R.pt), .n 6 (by0 R.pt), .n 6 (by1 R.pt), .b (bi R.pt)]) A15 rfl rfl rfl
  have A21 := hs12.other (Ne.symm (Nat.ne_of_lt (Nat.lt_of_lt_of_le A4.lt le10))) A16
  have HB22 := hs12.below HB17 (Nat.le_trans (Nat.le_refl _) le4)
  exact wp_ret (bodyPost_ret (ret1 Tryz.results16 (res_sv rfl A20 flG2 rfl)) rfl ⟨rfl, HB22⟩)
end Go.Proofs.YtmhieifjmgcbkaaGreat

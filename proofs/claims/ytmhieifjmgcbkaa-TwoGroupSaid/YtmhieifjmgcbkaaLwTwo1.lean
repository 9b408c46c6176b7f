/- What is proved here: the laws of package two: sums and their order. -/
import Derived.Test.YtmhieifjmgcbkaaTwo3
namespace Go.Proofs.Ytmhieifjmgcbkaa
open Go.RowKit Cv

set_option maxRecDepth 20000 in
set_option maxHeartbeats 4000000 in
theorem twoalive_v (w : World) :
    Calls Try.prog 6 #[] w (Is (.bool true) w) := by
  go_enter Try.func6, Try.ntmps6
  refine wp_seq (region_m (F := fun _ => ⟨#[.bool false, undef, undef, undef, undef, undef, undef, undef, undef], []⟩) 0 (fun _ => 0) (fun _ => 0) (fun _ => 0) (fun _ => []) (fun _ => []) [0] (.inr ⟨rfl, by kernel_rfl⟩) (by kernel_rfl) rfl rfl rfl ?_ ?_)
  · refine GSteps.cons (gm_val (v := .bool false) rfl (fun _ => rfl) (fun _ => rfl) (fun γ w h => ex_assign _) rfl) ?_
    exact GSteps.nil
  intro _ w1 hb1 _ _
  refine th_r ?_
  have HB2 := below_then (Below.refl w.heap.size w) hb1.out
  refine wp_seq (region_m (F := fun _ => ⟨#[.bool true, sv [.n 6 g2xa, .n 6 g2xb, .n 6 g2ya, .n 6 g2yb, .b false], sv [.n 6 g2xa, .n 6 g2xb, .n 6 g2ya, .n 6 g2yb, .b false], .bool true, .bool true, sv [.n 6 0, .n 6 0, .n 6 0, .n 6 0, .b true], sv [.n 6 0, .n 6 0, .n 6 0, .n 6 0, .b true], .bool true, .bool true], []⟩) 0 (fun _ => 0) (fun _ => 0) (fun _ => 0) (fun _ => []) (fun _ => []) [1, 2, 3, 4, 5, 6, 7, 8, 0] (.inr ⟨rfl, by kernel_rfl⟩) (by kernel_rfl) rfl rfl rfl ?_ ?_)
  · refine GSteps.cons (gm_call (v := sv [.n 6 g2xa, .n 6 g2xb, .n 6 g2ya, .n 6 g2yb, .b false]) rfl (fun _ => rfl) (fun _ => rfl) (fun γ w => ex_call (vs := []) rfl Try.call9 rfl) (fun w h => twoGen_v _) rfl) ?_
    refine GSteps.cons (gm_call (v := sv [.n 6 g2xa, .n 6 g2xb, .n 6 g2ya, .n 6 g2yb, .b false]) rfl (fun _ => rfl) (fun _ => rfl) (fun γ w => ex_call (vs := [.int .i64 0]) rfl Try.call16 rfl) (fun w h => r9Some_v _) rfl) ?_
    refine GSteps.cons (gm_val (v := .bool true) rfl (fun _ => rfl) (fun _ => rfl) (fun γ w h => ex_eqs gdG2 eqG2 rfl rfl rfl (shG2_of g2xa_B g2xb_B g2ya_B g2yb_B) (shG2_of g2xa_B g2xb_B g2ya_B g2yb_B) true (by simp)) rfl) ?_
    refine GSteps.cons (gm_val (v := .bool true) rfl (fun _ => rfl) (fun _ => rfl) (fun γ w h => ex_move _) rfl) ?_
    refine GSteps.cons (gm_call (v := sv [.n 6 0, .n 6 0, .n 6 0, .n 6 0, .b true]) rfl (fun _ => rfl) (fun _ => rfl) (fun γ w => ex_call (vs := []) rfl Try.call10 rfl) (fun w h => twoZero_v _) rfl) ?_
    refine GSteps.cons (gm_val (v := sv [.n 6 0, .n 6 0, .n 6 0, .n 6 0, .b true]) rfl (fun _ => rfl) (fun _ => rfl) (fun γ w h => ex_builds stG2 (l := [.n 6 0, .n 6 0, .n 6 0, .n 6 0, .b true]) (vs := [(2, .bool true)]) rfl ((fills_cons 4 1 (m := [.b true]) (z' := [.n 6 0, .n 6 0, .n 6 0, .n 6 0, .b true]) rfl (bool_cells true) rfl rfl rfl rfl).trans rfl)) rfl) ?_
    refine GSteps.cons (gm_val (v := .bool true) rfl (fun _ => rfl) (fun _ => rfl) (fun γ w h => ex_eqs gdG2 eqG2 rfl rfl rfl (shG2_of zero_B zero_B zero_B zero_B) (shG2_of zero_B zero_B zero_B zero_B) true (by simp)) rfl) ?_
    refine GSteps.cons (gm_val (v := .bool true) rfl (fun _ => rfl) (fun _ => rfl) (fun γ w h => ex_pick (r := true) rfl) rfl) ?_
    refine GSteps.cons (gm_val (v := .bool true) rfl (fun _ => rfl) (fun _ => rfl) (fun γ w h => ex_assign _) rfl) ?_
    exact GSteps.nil
  intro _ w3 hb3 _ _
  refine th_r ?_
  have HB4 := below_then HB2 hb3.out
  exact wp_ret (bodyPost_ret (ret1 Try.results6 (res_tmp rfl)) rfl ⟨rfl, HB4⟩)

set_option maxRecDepth 20000 in
set_option maxHeartbeats 4000000 in
theorem twoadd_v (P Q R : E2) (hs : P.add C2 Q = R) (w : World) :
    Calls Try.prog 12 #[sv [.n 6 (bx0 P.pt), .n 6 (bx1 P.pt), .n 6 (by0 P.pt), .n 6 (by1 P.pt), .b (bi P.pt)], sv [.n 6 (bx0 Q.pt), .n 6 (bx1 Q.pt), .n 6 (by0 Q.pt), .n 6 (by1 Q.pt), .b (bi Q.pt)]] w (Is (sv [.n 6 (bx0 R.pt), .n 6 (bx1 R.pt), .n 6 (by0 R.pt), .n 6 (by1 R.pt), .b (bi R.pt)]) w) := by
  go_enter Try.func12, Try.ntmps12
  refine wp_seq (region_m (F := fun γ => ⟨#[sv [.n 6 (bx0 P.pt), .n 6 (bx1 P.pt), .n 6 (by0 P.pt), .n 6 (by1 P.pt), .b (bi P.pt)], sv [.n 6 (bx0 Q.pt), .n 6 (bx1 Q.pt), .n 6 (by0 Q.pt), .n 6 (by1 Q.pt), .b (bi Q.pt)], .pointer (some ⟨γ 0, 0, none⟩), .pointer (some ⟨γ 1, 0, none⟩), .pointer (some ⟨γ 2, 0, none⟩), undef, undef, undef, undef, undef, undef, undef, undef, undef], []⟩) 3 (fun j_ => match j_ with | 0 => 28 | 1 => 28 | _ => 28) (fun j_ => match j_ with | 0 => 0 | 1 => 1 | _ => 2) (fun j_ => match j_ with | 0 => 0 | 1 => 1 | _ => 2) (fun j_ => match j_ with | 0 => segs [.n 6 (bx0 P.pt), .n 6 (bx1 P.pt), .n 6 (by0 P.pt), .n 6 (by1 P.pt), .b (bi P.pt)] | 1 => segs [.n 6 (bx0 Q.pt), .n 6 (bx1 Q.pt), .n 6 (by0 Q.pt), .n 6 (by1 Q.pt), .b (bi Q.pt)] | _ => segs [.n 6 0, .n 6 0, .n 6 0, .n 6 0, .b false]) (fun j_ => match j_ with | 0 => segs [.n 6 (bx0 P.pt), .n 6 (bx1 P.pt), .n 6 (by0 P.pt), .n 6 (by1 P.pt), .b (bi P.pt)] | 1 => segs [.n 6 (bx0 Q.pt), .n 6 (bx1 Q.pt), .n 6 (by0 Q.pt), .n 6 (by1 Q.pt), .b (bi Q.pt)] | _ => segs [.n 6 0, .n 6 0, .n 6 0, .n 6 0, .b false]) [2, 3, 4] (.inr ⟨rfl, by kernel_rfl⟩) (by kernel_rfl) rfl rfl rfl ?_ ?_)
  · refine GSteps.cons (gm_box 0 rfl (fun _ => rfl) (fun _ _ => rfl) (fun γ w h => ex_boxs (l := [.n 6 (bx0 P.pt), .n 6 (bx1 P.pt), .n 6 (by0 P.pt), .n 6 (by1 P.pt), .b (bi P.pt)]) rfl) rfl rfl rfl) ?_
    refine GSteps.cons (gm_box 1 rfl (fun _ => rfl) (fun _ _ => rfl) (fun γ w h => ex_boxs (l := [.n 6 (bx0 Q.pt), .n 6 (bx1 Q.pt), .n 6 (by0 Q.pt), .n 6 (by1 Q.pt), .b (bi Q.pt)]) rfl) rfl rfl rfl) ?_
    refine GSteps.cons (gm_box 2 rfl (fun _ => rfl) (fun _ _ => rfl) (fun γ w h => ex_allocs (l := [.n 6 0, .n 6 0, .n 6 0, .n 6 0, .b false]) zG2) rfl rfl rfl) ?_
    exact GSteps.nil
  intro γ1 w1 hb1 hB1 hn1
  refine th_r ?_
  have A2 : SB 28 w1 (γ1 0) [.n 6 (bx0 P.pt), .n 6 (bx1 P.pt), .n 6 (by0 P.pt), .n 6 (by1 P.pt), .b (bi P.pt)] := (hB1 0 (by decide)).2
  have le2 := (hB1 0 (by decide)).1
  have A3 : SB 28 w1 (γ1 1) [.n 6 (bx0 Q.pt), .n 6 (bx1 Q.pt), .n 6 (by0 Q.pt), .n 6 (by1 Q.pt), .b (bi Q.pt)] := (hB1 1 (by decide)).2
  have le3 := (hB1 1 (by decide)).1
  have A4 : SB 28 w1 (γ1 2) [.n 6 0, .n 6 0, .n 6 0, .n 6 0, .b false] := (hB1 2 (by decide)).2
  have le4 := (hB1 2 (by decide)).1
  have HB5 := below_then (Below.refl w.heap.size w) hb1.out
  refine wp_seq (region_m (F := fun γ => ⟨#[sv [.n 6 (bx0 P.pt), .n 6 (bx1 P.pt), .n 6 (by0 P.pt), .n 6 (by1 P.pt), .b (bi P.pt)], sv [.n 6 (bx0 Q.pt), .n 6 (bx1 Q.pt), .n 6 (by0 Q.pt), .n 6 (by1 Q.pt), .b (bi Q.pt)], .pointer (some ⟨(γ1 0), 0, none⟩), .pointer (some ⟨(γ1 1), 0, none⟩), .pointer (some ⟨(γ1 2), 0, none⟩), .pointer (some ⟨γ 0, 0, none⟩), .int .i64 0, .tuple #[sv [.n 6 (bx0 R.pt), .n 6 (bx1 R.pt), .n 6 (by0 R.pt), .n 6 (by1 R.pt), .b (bi R.pt)], .int .i64 0], sv [.n 6 (bx0 P.pt), .n 6 (bx1 P.pt), .n 6 (by0 P.pt), .n 6 (by1 P.pt), .b (bi P.pt)], sv [.n 6 (bx0 Q.pt), .n 6 (bx1 Q.pt), .n 6 (by0 Q.pt), .n 6 (by1 Q.pt), .b (bi Q.pt)], .tuple #[sv [.n 6 (bx0 R.pt), .n 6 (bx1 R.pt), .n 6 (by0 R.pt), .n 6 (by1 R.pt), .b (bi R.pt)], .int .i64 0], sv [.n 6 (bx0 R.pt), .n 6 (bx1 R.pt), .n 6 (by0 R.pt), .n 6 (by1 R.pt), .b (bi R.pt)], .int .i64 0, undef], []⟩) 1 (fun _ => 28) (fun _ => 6) (fun _ => 7) (fun _ => segs [.n 6 0, .n 6 0, .n 6 0, .n 6 0, .b false]) (fun _ => segs [.n 6 (bx0 R.pt), .n 6 (bx1 R.pt), .n 6 (by0 R.pt), .n 6 (by1 R.pt), .b (bi R.pt)]) [8, 9, 10, 7, 11, 12, 5, 6] (.inr ⟨rfl, by kernel_rfl⟩) (by kernel_rfl) rfl rfl rfl ?_ ?_)
  · refine GSteps.cons (gm_val (v := sv [.n 6 (bx0 P.pt), .n 6 (bx1 P.pt), .n 6 (by0 P.pt), .n 6 (by1 P.pt), .b (bi P.pt)]) rfl (fun _ => rfl) (fun _ => rfl) (fun γ w h => ex_loads 0 5 (m := [.n 6 (bx0 P.pt), .n 6 (bx1 P.pt), .n 6 (by0 P.pt), .n 6 (by1 P.pt), .b (bi P.pt)]) flG2 rfl rfl (A2.keep h.out) rfl rfl) rfl) ?_
    refine GSteps.cons (gm_val (v := sv [.n 6 (bx0 Q.pt), .n 6 (bx1 Q.pt), .n 6 (by0 Q.pt), .n 6 (by1 Q.pt), .b (bi Q.pt)]) rfl (fun _ => rfl) (fun _ => rfl) (fun γ w h => ex_loads 0 5 (m := [.n 6 (bx0 Q.pt), .n 6 (bx1 Q.pt), .n 6 (by0 Q.pt), .n 6 (by1 Q.pt), .b (bi Q.pt)]) flG2 rfl rfl (A3.keep h.out) rfl rfl) rfl) ?_
    refine GSteps.cons (gm_call (v := .tuple #[sv [.n 6 (bx0 R.pt), .n 6 (bx1 R.pt), .n 6 (by0 R.pt), .n 6 (by1 R.pt), .b (bi R.pt)], .int .i64 0]) rfl (fun _ => rfl) (fun _ => rfl) (fun γ w => ex_call (vs := [sv [.n 6 (bx0 P.pt), .n 6 (bx1 P.pt), .n 6 (by0 P.pt), .n 6 (by1 P.pt), .b (bi P.pt)], sv [.n 6 (bx0 Q.pt), .n 6 (bx1 Q.pt), .n 6 (by0 Q.pt), .n 6 (by1 Q.pt), .b (bi Q.pt)]]) rfl Try.call22 rfl) (fun w h => twoAdd_p P Q R hs _) rfl) ?_
    refine GSteps.cons (gm_val (v := .tuple #[sv [.n 6 (bx0 R.pt), .n 6 (bx1 R.pt), .n 6 (by0 R.pt), .n 6 (by1 R.pt), .b (bi R.pt)], .int .i64 0]) rfl (fun _ => rfl) (fun _ => rfl) (fun γ w h => ex_move _) rfl) ?_
    refine GSteps.cons (gm_val (v := sv [.n 6 (bx0 R.pt), .n 6 (bx1 R.pt), .n 6 (by0 R.pt), .n 6 (by1 R.pt), .b (bi R.pt)]) rfl (fun _ => rfl) (fun _ => rfl) (fun γ w h => ex_extract (vs := [sv [.n 6 (bx0 R.pt), .n 6 (bx1 R.pt), .n 6 (by0 R.pt), .n 6 (by1 R.pt), .b (bi R.pt)], .int .i64 0]) rfl rfl) rfl) ?_
    refine GSteps.cons (gm_val (v := .int .i64 0) rfl (fun _ => rfl) (fun _ => rfl) (fun γ w h => ex_extract (vs := [sv [.n 6 (bx0 R.pt), .n 6 (bx1 R.pt), .n 6 (by0 R.pt), .n 6 (by1 R.pt), .b (bi R.pt)], .int .i64 0]) rfl rfl) rfl) ?_
    refine GSteps.cons (gm_new 0 rfl (fun _ => rfl) (fun _ _ => rfl) (fun γ w => ex_allocs (l := [.n 6 0, .n 6 0, .n 6 0, .n 6 0, .b false]) zG2) rfl (by kernel_rfl)) ?_
    refine GSteps.cons (gm_store 0 rfl rfl (fun _ => rfl) (len_segs (l := [.n 6 (bx0 R.pt), .n 6 (bx1 R.pt), .n 6 (by0 R.pt), .n 6 (by1 R.pt), .b (bi R.pt)]) (l' := [.n 6 0, .n 6 0, .n 6 0, .n 6 0, .b false]) rfl) (fun γ w h => ex_stores 0 5 (l := [.n 6 0, .n 6 0, .n 6 0, .n 6 0, .b false]) (m := [.n 6 (bx0 R.pt), .n 6 (bx1 R.pt), .n 6 (by0 R.pt), .n 6 (by1 R.pt), .b (bi R.pt)]) flG2.2 rfl rfl rfl rfl h rfl rfl) rfl rfl (by kernel_rfl)) ?_
    refine GSteps.cons (gm_val (v := .int .i64 0) rfl (fun _ => rfl) (fun _ => rfl) (fun γ w h => ex_assign _) rfl) ?_
    exact GSteps.nil
  intro γ6 w6 hb6 hB6 _
  refine th_r ?_
  have A7 := A2.keep hb6.out
  have A8 := A3.keep hb6.out
  have A9 := A4.keep hb6.out
  have A10 : SB 28 w6 (γ6 0) [.n 6 (bx0 R.pt), .n 6 (bx1 R.pt), .n 6 (by0 R.pt), .n 6 (by1 R.pt), .b (bi R.pt)] := (hB6 0 (by decide)).2
  have le10 := (hB6 0 (by decide)).1
  have HB11 := below_then HB5 hb6.out
  refine wp_seq (region_ms (F := fun _ => ⟨#[sv [.n 6 (bx0 P.pt), .n 6 (bx1 P.pt), .n 6 (by0 P.pt), .n 6 (by1 P.pt), .b (bi P.pt)], sv [.n 6 (bx0 Q.pt), .n 6 (bx1 Q.pt), .n 6 (by0 Q.pt), .n 6 (by1 Q.pt), .b (bi Q.pt)], .pointer (some ⟨(γ1 0), 0, none⟩), .pointer (some ⟨(γ1 1), 0, none⟩), .pointer (some ⟨(γ1 2), 0, none⟩), .pointer (some ⟨(γ6 0), 0, none⟩), .int .i64 0, .tuple #[sv [.n 6 (bx0 R.pt), .n 6 (bx1 R.pt), .n 6 (by0 R.pt), .n 6 (by1 R.pt), .b (bi R.pt)], .int .i64 0], sv [.n 6 (bx0 P.pt), .n 6 (bx1 P.pt), .n 6 (by0 P.pt), .n 6 (by1 P.pt), .b (bi P.pt)], sv [.n 6 (bx0 Q.pt), .n 6 (bx1 Q.pt), .n 6 (by0 Q.pt), .n 6 (by1 Q.pt), .b (bi Q.pt)], .tuple #[sv [.n 6 (bx0 R.pt), .n 6 (bx1 R.pt), .n 6 (by0 R.pt), .n 6 (by1 R.pt), .b (bi R.pt)], .int .i64 0], sv [.n 6 (bx0 R.pt), .n 6 (bx1 R.pt), .n 6 (by0 R.pt), .n 6 (by1 R.pt), .b (bi R.pt)], .int .i64 0, sv [.n 6 (bx0 R.pt), .n 6 (bx1 R.pt), .n 6 (by0 R.pt), .n 6 (by1 R.pt), .b (bi R.pt)]], []⟩) 1 ((γ1 2)) 0 (segs [.n 6 (bx0 R.pt), .n 6 (bx1 R.pt), .n 6 (by0 R.pt), .n 6 (by1 R.pt), .b (bi R.pt)]) 0 (fun _ => 0) (fun _ => 0) (fun _ => 0) (fun _ => []) (fun _ => []) [13] (.inr ⟨rfl, by kernel_rfl⟩) (by kernel_rfl) rfl rfl rfl ?_ ?_)
  · refine GSteps.cons (late_step (gm_val (v := sv [.n 6 (bx0 R.pt), .n 6 (bx1 R.pt), .n 6 (by0 R.pt), .n 6 (by1 R.pt), .b (bi R.pt)]) rfl (fun _ => rfl) (fun _ => rfl) (fun γ w h => ex_loads 0 5 (m := [.n 6 (bx0 R.pt), .n 6 (bx1 R.pt), .n 6 (by0 R.pt), .n 6 (by1 R.pt), .b (bi R.pt)]) flG2 rfl rfl (A10.keep h.out) rfl rfl) rfl) (by kernel_rfl) rfl) ?_
    refine GSteps.cons (late_store rfl (fun _ => rfl) (fun γ w h => ex_stores 0 5 (l := [.n 6 0, .n 6 0, .n 6 0, .n 6 0, .b false]) (m := [.n 6 (bx0 R.pt), .n 6 (bx1 R.pt), .n 6 (by0 R.pt), .n 6 (by1 R.pt), .b (bi R.pt)]) flG2.2 rfl rfl rfl rfl (A9.keep h.out) rfl rfl) rfl) ?_
    exact GSteps.nil
  intro _ w12 w12_ hb12 _ _ hs12
  refine th_r ?_
  have A13 := A7.keep hb12.out
  have A14 := A8.keep hb12.out
  have A15 := A9.keep hb12.out
  have A16 := A10.keep hb12.out
  have HB17 := below_then HB11 hb12.out
  have A18 := hs12.other (hn1 0 2 (by decide) (by decide) (by decide)) A13
  have A19 := hs12.other (hn1 1 2 (by decide) (by decide) (by decide)) A14
  have A20 := hs12.here 0 5 (l' := [.n 6 (bx0 R.pt), .n 6 (bx1 R.pt), .n 6 (by0 R.pt), .n 6 (by1 R.pt), .b (bi R.pt)]) A15 rfl rfl rfl
  have A21 := hs12.other (Ne.symm (Nat.ne_of_lt (Nat.lt_of_lt_of_le A4.lt le10))) A16
  have HB22 := hs12.below HB17 (Nat.le_trans (Nat.le_refl _) le4)
  exact wp_ret (bodyPost_ret (ret1 Try.results12 (res_sv rfl A20 flG2 rfl)) rfl ⟨rfl, HB22⟩)

set_option maxRecDepth 20000 in
set_option maxHeartbeats 4000000 in
theorem twoGroup_1 (x0 : Nat) (x1 : Nat) (y0 : Nat) (y1 : Nat) (i : Bool) (hx0 : x0 < fpB) (hx1 : x1 < fpB) (hy0 : y0 < fpB) (hy1 : y1 < fpB) (h0 : ¬ RawOk2 x0 x1 y0 y1 i) (x01 : Nat) (x11 : Nat) (y01 : Nat) (y11 : Nat) (i1 : Bool) (x02 : Nat) (x12 : Nat) (y02 : Nat) (y12 : Nat) (i2 : Bool) (w : World) :
    Calls Try.prog 4 #[sv [.n 6 x0, .n 6 x1, .n 6 y0, .n 6 y1, .b i], sv [.n 6 x01, .n 6 x11, .n 6 y01, .n 6 y11, .b i1], sv [.n 6 x02, .n 6 x12, .n 6 y02, .n 6 y12, .b i2]] w (Is (.bool true) w) := by
  go_enter Try.func4, Try.ntmps4
  refine wp_seq (region_m (F := fun γ => ⟨List.toArray ((sv [.n 6 x0, .n 6 x1, .n 6 y0, .n 6 y1, .b i]) :: (sv [.n 6 x01, .n 6 x11, .n 6 y01, .n 6 y11, .b i1]) :: (sv [.n 6 x02, .n 6 x12, .n 6 y02, .n 6 y12, .b i2]) :: (.pointer (some ⟨γ 0, 0, none⟩)) :: (.pointer (some ⟨γ 1, 0, none⟩)) :: (.pointer (some ⟨γ 2, 0, none⟩)) :: (.bool false) :: undef :: undef :: undef :: undef :: undef :: undef :: undef :: undef :: undef :: undef :: undef :: undef :: undef :: undef :: undef :: undef :: undef :: undef :: undef :: undef :: undef :: undef :: undef :: undef :: undef :: undef :: undef :: undef :: undef :: undef :: undef :: undef :: undef :: undef :: undef :: undef :: undef :: undef :: undef :: undef :: undef :: undef :: undef :: undef :: undef :: undef :: undef :: undef :: undef :: undef :: undef :: undef :: undef :: undef :: undef :: undef :: undef :: undef :: undef :: undef :: undef :: undef :: undef :: undef :: undef :: undef :: undef :: undef :: undef :: undef :: undef :: undef :: undef :: undef :: undef :: undef :: undef :: []), []⟩) 3 (fun j_ => match j_ with | 0 => 28 | 1 => 28 | _ => 28) (fun j_ => match j_ with | 0 => 0 | 1 => 1 | _ => 2) (fun j_ => match j_ with | 0 => 0 | 1 => 1 | _ => 2) (fun j_ => match j_ with | 0 => segs [.n 6 x0, .n 6 x1, .n 6 y0, .n 6 y1, .b i] | 1 => segs [.n 6 x01, .n 6 x11, .n 6 y01, .n 6 y11, .b i1] | _ => segs [.n 6 x02, .n 6 x12, .n 6 y02, .n 6 y12, .b i2]) (fun j_ => match j_ with | 0 => segs [.n 6 x0, .n 6 x1, .n 6 y0, .n 6 y1, .b i] | 1 => segs [.n 6 x01, .n 6 x11, .n 6 y01, .n 6 y11, .b i1] | _ => segs [.n 6 x02, .n 6 x12, .n 6 y02, .n 6 y12, .b i2]) [3, 4, 5, 6] (.inr ⟨rfl, by kernel_rfl⟩) (by kernel_rfl) rfl rfl rfl ?_ ?_)
  · refine GSteps.cons (gm_box 0 rfl (fun _ => rfl) (fun _ _ => rfl) (fun γ w h => ex_boxs (l := [.n 6 x0, .n 6 x1, .n 6 y0, .n 6 y1, .b i]) rfl) rfl rfl rfl) ?_
    refine GSteps.cons (gm_box 1 rfl (fun _ => rfl) (fun _ _ => rfl) (fun γ w h => ex_boxs (l := [.n 6 x01, .n 6 x11, .n 6 y01, .n 6 y11, .b i1]) rfl) rfl rfl rfl) ?_
    refine GSteps.cons (gm_box 2 rfl (fun _ => rfl) (fun _ _ => rfl) (fun γ w h => ex_boxs (l := [.n 6 x02, .n 6 x12, .n 6 y02, .n 6 y12, .b i2]) rfl) rfl rfl rfl) ?_
    refine GSteps.cons (gm_val (v := .bool false) rfl (fun _ => rfl) (fun _ => rfl) (fun γ w h => ex_assign _) rfl) ?_
    exact GSteps.nil
  intro γ1 w1 hb1 hB1 hn1
  refine th_r ?_
  have A2 : SB 28 w1 (γ1 0) [.n 6 x0, .n 6 x1, .n 6 y0, .n 6 y1, .b i] := (hB1 0 (by decide)).2
  have le2 := (hB1 0 (by decide)).1
  have A3 : SB 28 w1 (γ1 1) [.n 6 x01, .n 6 x11, .n 6 y01, .n 6 y11, .b i1] := (hB1 1 (by decide)).2
  have le3 := (hB1 1 (by decide)).1
  have A4 : SB 28 w1 (γ1 2) [.n 6 x02, .n 6 x12, .n 6 y02, .n 6 y12, .b i2] := (hB1 2 (by decide)).2
  have le4 := (hB1 2 (by decide)).1
  have HB5 := below_then (Below.refl w.heap.size w) hb1.out
  refine wp_seq ?_
  refine wp_seq (region_m (F := fun _ => ⟨List.toArray ((sv [.n 6 x0, .n 6 x1, .n 6 y0, .n 6 y1, .b i]) :: (sv [.n 6 x01, .n 6 x11, .n 6 y01, .n 6 y11, .b i1]) :: (sv [.n 6 x02, .n 6 x12, .n 6 y02, .n 6 y12, .b i2]) :: (.pointer (some ⟨(γ1 0), 0, none⟩)) :: (.pointer (some ⟨(γ1 1), 0, none⟩)) :: (.pointer (some ⟨(γ1 2), 0, none⟩)) :: (.bool false) :: undef :: undef :: (sv [.n 6 x0, .n 6 x1, .n 6 y0, .n 6 y1, .b i]) :: (.bool false) :: (.bool true) :: (.bool true) :: undef :: undef :: undef :: (.bool true) :: (.bool true) :: undef :: undef :: undef :: (.bool true) :: undef :: undef :: undef :: undef :: undef :: undef :: undef :: undef :: undef :: undef :: undef :: undef :: undef :: undef :: undef :: undef :: undef :: undef :: undef :: undef :: undef :: undef :: undef :: undef :: undef :: undef :: undef :: undef :: undef :: undef :: undef :: undef :: undef :: undef :: undef :: undef :: undef :: undef :: undef :: undef :: undef :: undef :: undef :: undef :: undef :: undef :: undef :: undef :: undef :: undef :: undef :: undef :: undef :: undef :: undef :: undef :: undef :: undef :: undef :: undef :: undef :: undef :: []), []⟩) 0 (fun _ => 0) (fun _ => 0) (fun _ => 0) (fun _ => []) (fun _ => []) [9, 10, 11, 12, 13, 14, 15, 16, 17, 18, 19, 20, 21] (.inr ⟨rfl, by kernel_rfl⟩) (by kernel_rfl) rfl rfl rfl ?_ ?_)
  · refine GSteps.cons (gm_val (v := sv [.n 6 x0, .n 6 x1, .n 6 y0, .n 6 y1, .b i]) rfl (fun _ => rfl) (fun _ => rfl) (fun γ w h => ex_loads 0 5 (m := [.n 6 x0, .n 6 x1, .n 6 y0, .n 6 y1, .b i]) flG2 rfl rfl (A2.keep h.out) rfl rfl) rfl) ?_
    refine GSteps.cons (gm_call (v := .bool false) rfl (fun _ => rfl) (fun _ => rfl) (fun γ w => ex_call (vs := [sv [.n 6 x0, .n 6 x1, .n 6 y0, .n 6 y1, .b i]]) rfl Try.call5 rfl) (fun w h => r9Right_no hx0 hx1 hy0 hy1 h0 _) rfl) ?_
    refine GSteps.cons (gm_val (v := .bool true) rfl (fun _ => rfl) (fun _ => rfl) (fun γ w h => ex_not (r := false) rfl) rfl) ?_
    refine GSteps.cons (gm_val (v := .bool true) rfl (fun _ => rfl) (fun _ => rfl) (fun γ w h => ex_move _) rfl) ?_
    refine GSteps.cons (gm_skip rfl (fun _ => rfl) (fun _ => rfl) rfl) ?_
    refine GSteps.cons (gm_skip rfl (fun _ => rfl) (fun _ => rfl) rfl) ?_
    refine GSteps.cons (gm_skip rfl (fun _ => rfl) (fun _ => rfl) rfl) ?_
    refine GSteps.cons (gm_val (v := .bool true) rfl (fun _ => rfl) (fun _ => rfl) (fun γ w h => ex_pick (r := true) rfl) rfl) ?_
    refine GSteps.cons (gm_val (v := .bool true) rfl (fun _ => rfl) (fun _ => rfl) (fun γ w h => ex_move _) rfl) ?_
    refine GSteps.cons (gm_skip rfl (fun _ => rfl) (fun _ => rfl) rfl) ?_
    refine GSteps.cons (gm_skip rfl (fun _ => rfl) (fun _ => rfl) rfl) ?_
    refine GSteps.cons (gm_skip rfl (fun _ => rfl) (fun _ => rfl) rfl) ?_
    refine GSteps.cons (gm_val (v := .bool true) rfl (fun _ => rfl) (fun _ => rfl) (fun γ w h => ex_pick (r := true) rfl) rfl) ?_
    exact GSteps.nil
  intro _ w6 hb6 _ _
  refine th_r ?_
  have A7 := A2.keep hb6.out
  have A8 := A3.keep hb6.out
  have A9 := A4.keep hb6.out
  have HB10 := below_then HB5 hb6.out
  refine wp_cond_true rfl ?_
  refine wp_seq (region_m (F := fun _ => ⟨List.toArray ((sv [.n 6 x0, .n 6 x1, .n 6 y0, .n 6 y1, .b i]) :: (sv [.n 6 x01, .n 6 x11, .n 6 y01, .n 6 y11, .b i1]) :: (sv [.n 6 x02, .n 6 x12, .n 6 y02, .n 6 y12, .b i2]) :: (.pointer (some ⟨(γ1 0), 0, none⟩)) :: (.pointer (some ⟨(γ1 1), 0, none⟩)) :: (.pointer (some ⟨(γ1 2), 0, none⟩)) :: (.bool true) :: undef :: undef :: (sv [.n 6 x0, .n 6 x1, .n 6 y0, .n 6 y1, .b i]) :: (.bool false) :: (.bool true) :: (.bool true) :: undef :: undef :: undef :: (.bool true) :: (.bool true) :: undef :: undef :: undef :: (.bool true) :: (.bool true) :: undef :: undef :: undef :: undef :: undef :: undef :: undef :: undef :: undef :: undef :: undef :: undef :: undef :: undef :: undef :: undef :: undef :: undef :: undef :: undef :: undef :: undef :: undef :: undef :: undef :: undef :: undef :: undef :: undef :: undef :: undef :: undef :: undef :: undef :: undef :: undef :: undef :: undef :: undef :: undef :: undef :: undef :: undef :: undef :: undef :: undef :: undef :: undef :: undef :: undef :: undef :: undef :: undef :: undef :: undef :: undef :: undef :: undef :: undef :: undef :: undef :: []), []⟩) 0 (fun _ => 0) (fun _ => 0) (fun _ => 0) (fun _ => []) (fun _ => []) [22, 6] (.inr ⟨rfl, by kernel_rfl⟩) (by kernel_rfl) rfl rfl rfl ?_ ?_)
  · refine GSteps.cons (gm_call (v := .bool true) rfl (fun _ => rfl) (fun _ => rfl) (fun γ w => ex_call (vs := []) rfl Try.call6 rfl) (fun w h => twoalive_v _) rfl) ?_
    refine GSteps.cons (gm_val (v := .bool true) rfl (fun _ => rfl) (fun _ => rfl) (fun γ w h => ex_assign _) rfl) ?_
    exact GSteps.nil
  intro _ w11 hb11 _ _
  refine th_r ?_
  have A12 := A7.keep hb11.out
  have A13 := A8.keep hb11.out
  have A14 := A9.keep hb11.out
  have HB15 := below_then HB10 hb11.out
  exact wp_ret (th_ret (bodyPost_ret (ret1 Try.results4 (res_tmp rfl)) rfl ⟨rfl, HB15⟩))

set_option maxRecDepth 20000 in
set_option maxHeartbeats 4000000 in
theorem twoGroup_2 (P : E2) (x0 : Nat) (x1 : Nat) (y0 : Nat) (y1 : Nat) (i : Bool) (hx0 : x0 < fpB) (hx1 : x1 < fpB) (hy0 : y0 < fpB) (hy1 : y1 < fpB) (h0 : ¬ RawOk2 x0 x1 y0 y1 i) (x02 : Nat) (x12 : Nat) (y02 : Nat) (y12 : Nat) (i2 : Bool) (w : World) :
    Calls Try.prog 4 #[sv [.n 6 (bx0 P.pt), .n 6 (bx1 P.pt), .n 6 (by0 P.pt), .n 6 (by1 P.pt), .b (bi P.pt)], sv [.n 6 x0, .n 6 x1, .n 6 y0, .n 6 y1, .b i], sv [.n 6 x02, .n 6 x12, .n 6 y02, .n 6 y12, .b i2]] w (Is (.bool true) w) := by
  go_enter Try.func4, Try.ntmps4
  refine wp_seq (region_m (F := fun γ => ⟨List.toArray ((sv [.n 6 (bx0 P.pt), .n 6 (bx1 P.pt), .n 6 (by0 P.pt), .n 6 (by1 P.pt), .b (bi P.pt)]) :: (sv [.n 6 x0, .n 6 x1, .n 6 y0, .n 6 y1, .b i]) :: (sv [.n 6 x02, .n 6 x12, .n 6 y02, .n 6 y12, .b i2]) :: (.pointer (some ⟨γ 0, 0, none⟩)) :: (.pointer (some ⟨γ 1, 0, none⟩)) :: (.pointer (some ⟨γ 2, 0, none⟩)) :: (.bool false) :: undef :: undef :: undef :: undef :: undef :: undef :: undef :: undef :: undef :: undef :: undef :: undef :: undef :: undef :: undef :: undef :: undef :: undef :: undef :: undef :: undef :: undef :: undef :: undef :: undef :: undef :: undef :: undef :: undef :: undef :: undef :: undef :: undef :: undef :: undef :: undef :: undef :: undef :: undef :: undef :: undef :: undef :: undef :: undef :: undef :: undef :: undef :: undef :: undef :: undef :: undef :: undef :: undef :: undef :: undef :: undef :: undef :: undef :: undef :: undef :: undef :: undef :: undef :: undef :: undef :: undef :: undef :: undef :: undef :: undef :: undef :: undef :: undef :: undef :: undef :: undef :: undef :: []), []⟩) 3 (fun j_ => match j_ with | 0 => 28 | 1 => 28 | _ => 28) (fun j_ => match j_ with | 0 => 0 | 1 => 1 | _ => 2) (fun j_ => match j_ with | 0 => 0 | 1 => 1 | _ => 2) (fun j_ => match j_ with | 0 => segs [.n 6 (bx0 P.pt), .n 6 (bx1 P.pt), .n 6 (by0 P.pt), .n 6 (by1 P.pt), .b (bi P.pt)] | 1 => segs [.n 6 x0, .n 6 x1, .n 6 y0, .n 6 y1, .b i] | _ => segs [.n 6 x02, .n 6 x12, .n 6 y02, .n 6 y12, .b i2]) (fun j_ => match j_ with | 0 => segs [.n 6 (bx0 P.pt), .n 6 (bx1 P.pt), .n 6 (by0 P.pt), .n 6 (by1 P.pt), .b (bi P.pt)] | 1 => segs [.n 6 x0, .n 6 x1, .n 6 y0, .n 6 y1, .b i] | _ => segs [.n 6 x02, .n 6 x12, .n 6 y02, .n 6 y12, .b i2]) [3, 4, 5, 6] (.inr ⟨rfl, by kernel_rfl⟩) (by kernel_rfl) rfl rfl rfl ?_ ?_)
  · refine GSteps.cons (gm_box 0 rfl (fun _ => rfl) (fun _ _ => rfl) (fun γ w h => ex_boxs (l := [.n 6 (bx0 P.pt), .n 6 (bx1 P.pt), .n 6 (by0 P.pt), .n 6 (by1 P.pt), .b (bi P.pt)]) rfl) rfl rfl rfl) ?_
    refine GSteps.cons (gm_box 1 rfl (fun _ => rfl) (fun _ _ => rfl) (fun γ w h => ex_boxs (l := [.n 6 x0, .n 6 x1, .n 6 y0, .n 6 y1, .b i]) rfl) rfl rfl rfl) ?_
    refine GSteps.cons (gm_box 2 rfl (fun _ => rfl) (fun _ _ => rfl) (fun γ w h => ex_boxs (l := [.n 6 x02, .n 6 x12, .n 6 y02, .n 6 y12, .b i2]) rfl) rfl rfl rfl) ?_
    refine GSteps.cons (gm_val (v := .bool false) rfl (fun _ => rfl) (fun _ => rfl) (fun γ w h => ex_assign _) rfl) ?_
    exact GSteps.nil
  intro γ1 w1 hb1 hB1 hn1
  refine th_r ?_
  have A2 : SB 28 w1 (γ1 0) [.n 6 (bx0 P.pt), .n 6 (bx1 P.pt), .n 6 (by0 P.pt), .n 6 (by1 P.pt), .b (bi P.pt)] := (hB1 0 (by decide)).2
  have le2 := (hB1 0 (by decide)).1
  have A3 : SB 28 w1 (γ1 1) [.n 6 x0, .n 6 x1, .n 6 y0, .n 6 y1, .b i] := (hB1 1 (by decide)).2
  have le3 := (hB1 1 (by decide)).1
  have A4 : SB 28 w1 (γ1 2) [.n 6 x02, .n 6 x12, .n 6 y02, .n 6 y12, .b i2] := (hB1 2 (by decide)).2
  have le4 := (hB1 2 (by decide)).1
  have HB5 := below_then (Below.refl w.heap.size w) hb1.out
  refine wp_seq ?_
  refine wp_seq (region_m (F := fun _ => ⟨List.toArray ((sv [.n 6 (bx0 P.pt), .n 6 (bx1 P.pt), .n 6 (by0 P.pt), .n 6 (by1 P.pt), .b (bi P.pt)]) :: (sv [.n 6 x0, .n 6 x1, .n 6 y0, .n 6 y1, .b i]) :: (sv [.n 6 x02, .n 6 x12, .n 6 y02, .n 6 y12, .b i2]) :: (.pointer (some ⟨(γ1 0), 0, none⟩)) :: (.pointer (some ⟨(γ1 1), 0, none⟩)) :: (.pointer (some ⟨(γ1 2), 0, none⟩)) :: (.bool false) :: undef :: undef :: (sv [.n 6 (bx0 P.pt), .n 6 (bx1 P.pt), .n 6 (by0 P.pt), .n 6 (by1 P.pt), .b (bi P.pt)]) :: (.bool true) :: (.bool false) :: (.bool false) :: (sv [.n 6 x0, .n 6 x1, .n 6 y0, .n 6 y1, .b i]) :: (.bool false) :: (.bool true) :: (.bool true) :: (.bool true) :: undef :: undef :: undef :: (.bool true) :: undef :: undef :: undef :: undef :: undef :: undef :: undef :: undef :: undef :: undef :: undef :: undef :: undef :: undef :: undef :: undef :: undef :: undef :: undef :: undef :: undef :: undef :: undef :: undef :: undef :: undef :: undef :: undef :: undef :: undef :: undef :: undef :: undef :: undef :: undef :: undef :: undef :: undef :: undef :: undef :: undef :: undef :: undef :: undef :: undef :: undef :: undef :: undef :: undef :: undef :: undef :: undef :: undef :: undef :: undef :: undef :: undef :: undef :: undef :: undef :: undef :: undef :: []), []⟩) 0 (fun _ => 0) (fun _ => 0) (fun _ => 0) (fun _ => []) (fun _ => []) [9, 10, 11, 12, 13, 14, 15, 16, 17, 18, 19, 20, 21] (.inr ⟨rfl, by kernel_rfl⟩) (by kernel_rfl) rfl rfl rfl ?_ ?_)
  · refine GSteps.cons (gm_val (v := sv [.n 6 (bx0 P.pt), .n 6 (bx1 P.pt), .n 6 (by0 P.pt), .n 6 (by1 P.pt), .b (bi P.pt)]) rfl (fun _ => rfl) (fun _ => rfl) (fun γ w h => ex_loads 0 5 (m := [.n 6 (bx0 P.pt), .n 6 (bx1 P.pt), .n 6 (by0 P.pt), .n 6 (by1 P.pt), .b (bi P.pt)]) flG2 rfl rfl (A2.keep h.out) rfl rfl) rfl) ?_
    refine GSteps.cons (gm_call (v := .bool true) rfl (fun _ => rfl) (fun _ => rfl) (fun γ w => ex_call (vs := [sv [.n 6 (bx0 P.pt), .n 6 (bx1 P.pt), .n 6 (by0 P.pt), .n 6 (by1 P.pt), .b (bi P.pt)]]) rfl Try.call5 rfl) (fun w h => r9Right_p P _) rfl) ?_
    refine GSteps.cons (gm_val (v := .bool false) rfl (fun _ => rfl) (fun _ => rfl) (fun γ w h => ex_not (r := true) rfl) rfl) ?_
    refine GSteps.cons (gm_val (v := .bool false) rfl (fun _ => rfl) (fun _ => rfl) (fun γ w h => ex_move _) rfl) ?_
    refine GSteps.cons (gm_val (v := sv [.n 6 x0, .n 6 x1, .n 6 y0, .n 6 y1, .b i]) rfl (fun _ => rfl) (fun _ => rfl) (fun γ w h => ex_loads 0 5 (m := [.n 6 x0, .n 6 x1, .n 6 y0, .n 6 y1, .b i]) flG2 rfl rfl (A3.keep h.out) rfl rfl) rfl) ?_
    refine GSteps.cons (gm_call (v := .bool false) rfl (fun _ => rfl) (fun _ => rfl) (fun γ w => ex_call (vs := [sv [.n 6 x0, .n 6 x1, .n 6 y0, .n 6 y1, .b i]]) rfl Try.call5 rfl) (fun w h => r9Right_no hx0 hx1 hy0 hy1 h0 _) rfl) ?_
    refine GSteps.cons (gm_val (v := .bool true) rfl (fun _ => rfl) (fun _ => rfl) (fun γ w h => ex_not (r := false) rfl) rfl) ?_
    refine GSteps.cons (gm_val (v := .bool true) rfl (fun _ => rfl) (fun _ => rfl) (fun γ w h => ex_pick (r := false) rfl) rfl) ?_
    refine GSteps.cons (gm_val (v := .bool true) rfl (fun _ => rfl) (fun _ => rfl) (fun γ w h => ex_move _) rfl) ?_
    refine GSteps.cons (gm_skip rfl (fun _ => rfl) (fun _ => rfl) rfl) ?_
    refine GSteps.cons (gm_skip rfl (fun _ => rfl) (fun _ => rfl) rfl) ?_
    refine GSteps.cons (gm_skip rfl (fun _ => rfl) (fun _ => rfl) rfl) ?_
    refine GSteps.cons (gm_val (v := .bool true) rfl (fun _ => rfl) (fun _ => rfl) (fun γ w h => ex_pick (r := true) rfl) rfl) ?_
    exact GSteps.nil
  intro _ w6 hb6 _ _
  refine th_r ?_
  have A7 := A2.keep hb6.out
  have A8 := A3.keep hb6.out
  have A9 := A4.keep hb6.out
  have HB10 := below_then HB5 hb6.out
  refine wp_cond_true rfl ?_
  refine wp_seq (region_m (F := fun _ => ⟨List.toArray ((sv [.n 6 (bx0 P.pt), .n 6 (bx1 P.pt), .n 6 (by0 P.pt), .n 6 (by1 P.pt), .b (bi P.pt)]) :: (sv [.n 6 x0, .n 6 x1, .n 6 y0, .n 6 y1, .b i]) :: (sv [.n 6 x02, .n 6 x12, .n 6 y02, .n 6 y12, .b i2]) :: (.pointer (some ⟨(γ1 0), 0, none⟩)) :: (.pointer (some ⟨(γ1 1), 0, none⟩)) :: (.pointer (some ⟨(γ1 2), 0, none⟩)) :: (.bool true) :: undef :: undef :: (sv [.n 6 (bx0 P.pt), .n 6 (bx1 P.pt), .n 6 (by0 P.pt), .n 6 (by1 P.pt), .b (bi P.pt)]) :: (.bool true) :: (.bool false) :: (.bool false) :: (sv [.n 6 x0, .n 6 x1, .n 6 y0, .n 6 y1, .b i]) :: (.bool false) :: (.bool true) :: (.bool true) :: (.bool true) :: undef :: undef :: undef :: (.bool true) :: (.bool true) :: undef :: undef :: undef :: undef :: undef :: undef :: undef :: undef :: undef :: undef :: undef :: undef :: undef :: undef :: undef :: undef :: undef :: undef :: undef :: undef :: undef :: undef :: undef :: undef :: undef :: undef :: undef :: undef :: undef :: undef :: undef :: undef :: undef :: undef :: undef :: undef :: undef :: undef :: undef :: undef :: undef :: undef :: undef :: undef :: undef :: undef :: undef :: undef :: undef :: undef :: undef :: undef :: undef :: undef :: undef :: undef :: undef :: undef :: undef :: undef :: undef :: []), []⟩) 0 (fun _ => 0) (fun _ => 0) (fun _ => 0) (fun _ => []) (fun _ => []) [22, 6] (.inr ⟨rfl, by kernel_rfl⟩) (by kernel_rfl) rfl rfl rfl ?_ ?_)
  · refine GSteps.cons (gm_call (v := .bool true) rfl (fun _ => rfl) (fun _ => rfl) (fun γ w => ex_call (vs := []) rfl Try.call6 rfl) (fun w h => twoalive_v _) rfl) ?_
    refine GSteps.cons (gm_val (v := .bool true) rfl (fun _ => rfl) (fun _ => rfl) (fun γ w h => ex_assign _) rfl) ?_
    exact GSteps.nil
  intro _ w11 hb11 _ _
  refine th_r ?_
  have A12 := A7.keep hb11.out
  have A13 := A8.keep hb11.out
  have A14 := A9.keep hb11.out
  have HB15 := below_then HB10 hb11.out
  exact wp_ret (th_ret (bodyPost_ret (ret1 Try.results4 (res_tmp rfl)) rfl ⟨rfl, HB15⟩))

set_option maxRecDepth 20000 in
set_option maxHeartbeats 4000000 in
theorem twoGroup_3 (P Q : E2) (x0 : Nat) (x1 : Nat) (y0 : Nat) (y1 : Nat) (i : Bool) (hx0 : x0 < fpB) (hx1 : x1 < fpB) (hy0 : y0 < fpB) (hy1 : y1 < fpB) (h0 : ¬ RawOk2 x0 x1 y0 y1 i) (w : World) :
    Calls Try.prog 4 #[sv [.n 6 (bx0 P.pt), .n 6 (bx1 P.pt), .n 6 (by0 P.pt), .n 6 (by1 P.pt), .b (bi P.pt)], sv [.n 6 (bx0 Q.pt), .n 6 (bx1 Q.pt), .n 6 (by0 Q.pt), .n 6 (by1 Q.pt), .b (bi Q.pt)], sv [.n 6 x0, .n 6 x1, .n 6 y0, .n 6 y1, .b i]] w (Is (.bool true) w) := by
  go_enter Try.func4, Try.ntmps4
  refine wp_seq (region_m (F := fun γ => ⟨List.toArray ((sv [.n 6 (bx0 P.pt), .n 6 (bx1 P.pt), .n 6 (by0 P.pt), .n 6 (by1 P.pt), .b (bi P.pt)]) :: (sv [.n 6 (bx0 Q.pt), .n 6 (bx1 Q.pt), .n 6 (by0 Q.pt), .n 6 (by1 Q.pt), .b (bi Q.pt)]) :: (sv [.n 6 x0, .n 6 x1, .n 6 y0, .n 6 y1, .b i]) :: (.pointer (some ⟨γ 0, 0, none⟩)) :: (.pointer (some ⟨γ 1, 0, none⟩)) :: (.pointer (some ⟨γ 2, 0, none⟩)) :: (.bool false) :: undef :: undef :: undef :: undef :: undef :: undef :: undef :: undef :: undef :: undef :: undef :: undef :: undef :: undef :: undef :: undef :: undef :: undef :: undef :: undef :: undef :: undef :: undef :: undef :: undef :: undef :: undef :: undef :: undef :: undef :: undef :: undef :: undef :: undef :: undef :: undef :: undef :: undef :: undef :: undef :: undef :: undef :: undef :: undef :: undef :: undef :: undef :: undef :: undef :: undef :: undef :: undef :: undef :: undef :: undef :: undef :: undef :: undef :: undef :: undef :: undef :: undef :: undef :: undef :: undef :: undef :: undef :: undef :: undef :: undef :: undef :: undef :: undef :: undef :: undef :: undef :: undef :: []), []⟩) 3 (fun j_ => match j_ with | 0 => 28 | 1 => 28 | _ => 28) (fun j_ => match j_ with | 0 => 0 | 1 => 1 | _ => 2) (fun j_ => match j_ with | 0 => 0 | 1 => 1 | _ => 2) (fun j_ => match j_ with | 0 => segs [.n 6 (bx0 P.pt), .n 6 (bx1 P.pt), .n 6 (by0 P.pt), .n 6 (by1 P.pt), .b (bi P.pt)] | 1 => segs [.n 6 (bx0 Q.pt), .n 6 (bx1 Q.pt), .n 6 (by0 Q.pt), .n 6 (by1 Q.pt), .b (bi Q.pt)] | _ => segs [.n 6 x0, .n 6 x1, .n 6 y0, .n 6 y1, .b i]) (fun j_ => match j_ with | 0 => segs [.n 6 (bx0 P.pt), .n 6 (bx1 P.pt), .n 6 (by0 P.pt), .n 6 (by1 P.pt), .b (bi P.pt)] | 1 => segs [.n 6 (bx0 Q.pt), .n 6 (bx1 Q.pt), .n 6 (by0 Q.pt), .n 6 (by1 Q.pt), .b (bi Q.pt)] | _ => segs [.n 6 x0, .n 6 x1, .n 6 y0, .n 6 y1, .b i]) [3, 4, 5, 6] (.inr ⟨rfl, by kernel_rfl⟩) (by kernel_rfl) rfl rfl rfl ?_ ?_)
  · refine GSteps.cons (gm_box 0 rfl (fun _ => rfl) (fun _ _ => rfl) (fun γ w h => ex_boxs (l := [.n 6 (bx0 P.pt), .n 6 (bx1 P.pt), .n 6 (by0 P.pt), .n 6 (by1 P.pt), .b (bi P.pt)]) rfl) rfl rfl rfl) ?_
    refine GSteps.cons (gm_box 1 rfl (fun _ => rfl) (fun _ _ => rfl) (fun γ w h => ex_boxs (l := [.n 6 (bx0 Q.pt), .n 6 (bx1 Q.pt), .n 6 (by0 Q.pt), .n 6 (by1 Q.pt), .b (bi Q.pt)]) rfl) rfl rfl rfl) ?_
    refine GSteps.cons (gm_box 2 rfl (fun _ => rfl) (fun _ _ => rfl) (fun γ w h => ex_boxs (l := [.n 6 x0, .n 6 x1, .n 6 y0, .n 6 y1, .b i]) rfl) rfl rfl rfl) ?_
    refine GSteps.cons (gm_val (v := .bool false) rfl (fun _ => rfl) (fun _ => rfl) (fun γ w h => ex_assign _) rfl) ?_
    exact GSteps.nil
  intro γ1 w1 hb1 hB1 hn1
  refine th_r ?_
  have A2 : SB 28 w1 (γ1 0) [.n 6 (bx0 P.pt), .n 6 (bx1 P.pt), .n 6 (by0 P.pt), .n 6 (by1 P.pt), .b (bi P.pt)] := (hB1 0 (by decide)).2
  have le2 := (hB1 0 (by decide)).1
  have A3 : SB 28 w1 (γ1 1) [.n 6 (bx0 Q.pt), .n 6 (bx1 Q.pt), .n 6 (by0 Q.pt), .n 6 (by1 Q.pt), .b (bi Q.pt)] := (hB1 1 (by decide)).2
  have le3 := (hB1 1 (by decide)).1
  have A4 : SB 28 w1 (γ1 2) [.n 6 x0, .n 6 x1, .n 6 y0, .n 6 y1, .b i] := (hB1 2 (by decide)).2
  have le4 := (hB1 2 (by decide)).1
  have HB5 := below_then (Below.refl w.heap.size w) hb1.out
  refine wp_seq ?_
  refine wp_seq (region_m (F := fun _ => ⟨List.toArray ((sv [.n 6 (bx0 P.pt), .n 6 (bx1 P.pt), .n 6 (by0 P.pt), .n 6 (by1 P.pt), .b (bi P.pt)]) :: (sv [.n 6 (bx0 Q.pt), .n 6 (bx1 Q.pt), .n 6 (by0 Q.pt), .n 6 (by1 Q.pt), .b (bi Q.pt)]) :: (sv [.n 6 x0, .n 6 x1, .n 6 y0, .n 6 y1, .b i]) :: (.pointer (some ⟨(γ1 0), 0, none⟩)) :: (.pointer (some ⟨(γ1 1), 0, none⟩)) :: (.pointer (some ⟨(γ1 2), 0, none⟩)) :: (.bool false) :: undef :: undef :: (sv [.n 6 (bx0 P.pt), .n 6 (bx1 P.pt), .n 6 (by0 P.pt), .n 6 (by1 P.pt), .b (bi P.pt)]) :: (.bool true) :: (.bool false) :: (.bool false) :: (sv [.n 6 (bx0 Q.pt), .n 6 (bx1 Q.pt), .n 6 (by0 Q.pt), .n 6 (by1 Q.pt), .b (bi Q.pt)]) :: (.bool true) :: (.bool false) :: (.bool false) :: (.bool false) :: (sv [.n 6 x0, .n 6 x1, .n 6 y0, .n 6 y1, .b i]) :: (.bool false) :: (.bool true) :: (.bool true) :: undef :: undef :: undef :: undef :: undef :: undef :: undef :: undef :: undef :: undef :: undef :: undef :: undef :: undef :: undef :: undef :: undef :: undef :: undef :: undef :: undef :: undef :: undef :: undef :: undef :: undef :: undef :: undef :: undef :: undef :: undef :: undef :: undef :: undef :: undef :: undef :: undef :: undef :: undef :: undef :: undef :: undef :: undef :: undef :: undef :: undef :: undef :: undef :: undef :: undef :: undef :: undef :: undef :: undef :: undef :: undef :: undef :: undef :: undef :: undef :: undef :: undef :: []), []⟩) 0 (fun _ => 0) (fun _ => 0) (fun _ => 0) (fun _ => []) (fun _ => []) [9, 10, 11, 12, 13, 14, 15, 16, 17, 18, 19, 20, 21] (.inr ⟨rfl, by kernel_rfl⟩) (by kernel_rfl) rfl rfl rfl ?_ ?_)
  · refine GSteps.cons (gm_val (v := sv [.n 6 (bx0 P.pt), .n 6 (bx1 P.pt), .n 6 (by0 P.pt), .n 6 (by1 P.pt), .b (bi P.pt)]) rfl (fun _ => rfl) (fun _ => rfl) (fun γ w h => ex_loads 0 5 (m := [.n 6 (bx0 P.pt), .n 6 (bx1 P.pt), .n 6 (by0 P.pt), .n 6 (by1 P.pt), .b (bi P.pt)]) flG2 rfl rfl (A2.keep h.out) rfl rfl) rfl) ?_
    refine GSteps.cons (gm_call (v := .bool true) rfl (fun _ => rfl) (fun _ => rfl) (fun γ w => ex_call (vs := [sv [.n 6 (bx0 P.pt), .n 6 (bx1 P.pt), .n 6 (by0 P.pt), .n 6 (by1 P.pt), .b (bi P.pt)]]) rfl Try.call5 rfl) (fun w h => r9Right_p P _) rfl) ?_
    refine GSteps.cons (gm_val (v := .bool false) rfl (fun _ => rfl) (fun _ => rfl) (fun γ w h => ex_not (r := true) rfl) rfl) ?_
    refine GSteps.cons (gm_val (v := .bool false) rfl (fun _ => rfl) (fun _ => rfl) (fun γ w h => ex_move _) rfl) ?_
    refine GSteps.cons (gm_val (v := sv [.n 6 (bx0 Q.pt), .n 6 (bx1 Q.pt), .n 6 (by0 Q.pt), .n 6 (by1 Q.pt), .b (bi Q.pt)]) rfl (fun _ => rfl) (fun _ => rfl) (fun γ w h => ex_loads 0 5 (m := [.n 6 (bx0 Q.pt), .n 6 (bx1 Q.pt), .n 6 (by0 Q.pt), .n 6 (by1 Q.pt), .b (bi Q.pt)]) flG2 rfl rfl (A3.keep h.out) rfl rfl) rfl) ?_
    refine GSteps.cons (gm_call (v := .bool true) rfl (fun _ => rfl) (fun _ => rfl) (fun γ w => ex_call (vs := [sv [.n 6 (bx0 Q.pt), .n 6 (bx1 Q.pt), .n 6 (by0 Q.pt), .n 6 (by1 Q.pt), .b (bi Q.pt)]]) rfl Try.call5 rfl) (fun w h => r9Right_p Q _) rfl) ?_
    refine GSteps.cons (gm_val (v := .bool false) rfl (fun _ => rfl) (fun _ => rfl) (fun γ w h => ex_not (r := true) rfl) rfl) ?_
    refine GSteps.cons (gm_val (v := .bool false) rfl (fun _ => rfl) (fun _ => rfl) (fun γ w h => ex_pick (r := false) rfl) rfl) ?_
    refine GSteps.cons (gm_val (v := .bool false) rfl (fun _ => rfl) (fun _ => rfl) (fun γ w h => ex_move _) rfl) ?_
    refine GSteps.cons (gm_val (v := sv [.n 6 x0, .n 6 x1, .n 6 y0, .n 6 y1, .b i]) rfl (fun _ => rfl) (fun _ => rfl) (fun γ w h => ex_loads 0 5 (m := [.n 6 x0, .n 6 x1, .n 6 y0, .n 6 y1, .b i]) flG2 rfl rfl (A4.keep h.out) rfl rfl) rfl) ?_
    refine GSteps.cons (gm_call (v := .bool false) rfl (fun _ => rfl) (fun _ => rfl) (fun γ w => ex_call (vs := [sv [.n 6 x0, .n 6 x1, .n 6 y0, .n 6 y1, .b i]]) rfl Try.call5 rfl) (fun w h => r9Right_no hx0 hx1 hy0 hy1 h0 _) rfl) ?_
    refine GSteps.cons (gm_val (v := .bool true) rfl (fun _ => rfl) (fun _ => rfl) (fun γ w h => ex_not (r := false) rfl) rfl) ?_
    refine GSteps.cons (gm_val (v := .bool true) rfl (fun _ => rfl) (fun _ => rfl) (fun γ w h => ex_pick (r := false) rfl) rfl) ?_
    exact GSteps.nil
  intro _ w6 hb6 _ _
  refine th_r ?_
  have A7 := A2.keep hb6.out
  have A8 := A3.keep hb6.out
  have A9 := A4.keep hb6.out
  have HB10 := below_then HB5 hb6.out
  refine wp_cond_true rfl ?_
  refine wp_seq (region_m (F := fun _ => ⟨List.toArray ((sv [.n 6 (bx0 P.pt), .n 6 (bx1 P.pt), .n 6 (by0 P.pt), .n 6 (by1 P.pt), .b (bi P.pt)]) :: (sv [.n 6 (bx0 Q.pt), .n 6 (bx1 Q.pt), .n 6 (by0 Q.pt), .n 6 (by1 Q.pt), .b (bi Q.pt)]) :: (sv [.n 6 x0, .n 6 x1, .n 6 y0, .n 6 y1, .b i]) :: (.pointer (some ⟨(γ1 0), 0, none⟩)) :: (.pointer (some ⟨(γ1 1), 0, none⟩)) :: (.pointer (some ⟨(γ1 2), 0, none⟩)) :: (.bool true) :: undef :: undef :: (sv [.n 6 (bx0 P.pt), .n 6 (bx1 P.pt), .n 6 (by0 P.pt), .n 6 (by1 P.pt), .b (bi P.pt)]) :: (.bool true) :: (.bool false) :: (.bool false) :: (sv [.n 6 (bx0 Q.pt), .n 6 (bx1 Q.pt), .n 6 (by0 Q.pt), .n 6 (by1 Q.pt), .b (bi Q.pt)]) :: (.bool true) :: (.bool false) :: (.bool false) :: (.bool false) :: (sv [.n 6 x0, .n 6 x1, .n 6 y0, .n 6 y1, .b i]) :: (.bool false) :: (.bool true) :: (.bool true) :: (.bool true) :: undef :: undef :: undef :: undef :: undef :: undef :: undef :: undef :: undef :: undef :: undef :: undef :: undef :: undef :: undef :: undef :: undef :: undef :: undef :: undef :: undef :: undef :: undef :: undef :: undef :: undef :: undef :: undef :: undef :: undef :: undef :: undef :: undef :: undef :: undef :: undef :: undef :: undef :: undef :: undef :: undef :: undef :: undef :: undef :: undef :: undef :: undef :: undef :: undef :: undef :: undef :: undef :: undef :: undef :: undef :: undef :: undef :: undef :: undef :: undef :: undef :: []), []⟩) 0 (fun _ => 0) (fun _ => 0) (fun _ => 0) (fun _ => []) (fun _ => []) [22, 6] (.inr ⟨rfl, by kernel_rfl⟩) (by kernel_rfl) rfl rfl rfl ?_ ?_)
  · refine GSteps.cons (gm_call (v := .bool true) rfl (fun _ => rfl) (fun _ => rfl) (fun γ w => ex_call (vs := []) rfl Try.call6 rfl) (fun w h => twoalive_v _) rfl) ?_
    refine GSteps.cons (gm_val (v := .bool true) rfl (fun _ => rfl) (fun _ => rfl) (fun γ w h => ex_assign _) rfl) ?_
    exact GSteps.nil
  intro _ w11 hb11 _ _
  refine th_r ?_
  have A12 := A7.keep hb11.out
  have A13 := A8.keep hb11.out
  have A14 := A9.keep hb11.out
  have HB15 := below_then HB10 hb11.out
  exact wp_ret (th_ret (bodyPost_ret (ret1 Try.results4 (res_tmp rfl)) rfl ⟨rfl, HB15⟩))

set_option maxRecDepth 20000 in
set_option maxHeartbeats 4000000 in
theorem twoGroup_4 (P Q S : E2) (w : World) :
    Calls Try.prog 4 #[sv [.n 6 (bx0 P.pt), .n 6 (bx1 P.pt), .n 6 (by0 P.pt), .n 6 (by1 P.pt), .b (bi P.pt)], sv [.n 6 (bx0 Q.pt), .n 6 (bx1 Q.pt), .n 6 (by0 Q.pt), .n 6 (by1 Q.pt), .b (bi Q.pt)], sv [.n 6 (bx0 S.pt), .n 6 (bx1 S.pt), .n 6 (by0 S.pt), .n 6 (by1 S.pt), .b (bi S.pt)]] w (Is (.bool true) w) := by
  obtain ⟨N, hN⟩ : ∃ q_ : E2, q_ = P.neg := ⟨_, rfl⟩
  obtain ⟨A, hA⟩ : ∃ q_ : E2, q_ = P.add C2 Q := ⟨_, rfl⟩
  obtain ⟨B, hB⟩ : ∃ q_ : E2, q_ = Q.add C2 S := ⟨_, rfl⟩
  obtain ⟨G, hG⟩ : ∃ q_ : E2, q_ = A.add C2 S := ⟨_, rfl⟩
  go_enter Try.func4, Try.ntmps4
  refine wp_seq (region_m (F := fun γ => ⟨List.toArray ((sv [.n 6 (bx0 P.pt), .n 6 (bx1 P.pt), .n 6 (by0 P.pt), .n 6 (by1 P.pt), .b (bi P.pt)]) :: (sv [.n 6 (bx0 Q.pt), .n 6 (bx1 Q.pt), .n 6 (by0 Q.pt), .n 6 (by1 Q.pt), .b (bi Q.pt)]) :: (sv [.n 6 (bx0 S.pt), .n 6 (bx1 S.pt), .n 6 (by0 S.pt), .n 6 (by1 S.pt), .b (bi S.pt)]) :: (.pointer (some ⟨γ 0, 0, none⟩)) :: (.pointer (some ⟨γ 1, 0, none⟩)) :: (.pointer (some ⟨γ 2, 0, none⟩)) :: (.bool false) :: undef :: undef :: undef :: undef :: undef :: undef :: undef :: undef :: undef :: undef :: undef :: undef :: undef :: undef :: undef :: undef :: undef :: undef :: undef :: undef :: undef :: undef :: undef :: undef :: undef :: undef :: undef :: undef :: undef :: undef :: undef :: undef :: undef :: undef :: undef :: undef :: undef :: undef :: undef :: undef :: undef :: undef :: undef :: undef :: undef :: undef :: undef :: undef :: undef :: undef :: undef :: undef :: undef :: undef :: undef :: undef :: undef :: undef :: undef :: undef :: undef :: undef :: undef :: undef :: undef :: undef :: undef :: undef :: undef :: undef :: undef :: undef :: undef :: undef :: undef :: undef :: undef :: []), []⟩) 3 (fun j_ => match j_ with | 0 => 28 | 1 => 28 | _ => 28) (fun j_ => match j_ with | 0 => 0 | 1 => 1 | _ => 2) (fun j_ => match j_ with | 0 => 0 | 1 => 1 | _ => 2) (fun j_ => match j_ with | 0 => segs [.n 6 (bx0 P.pt), .n 6 (bx1 P.pt), .n 6 (by0 P.pt), .n 6 (by1 P.pt), .b (bi P.pt)] | 1 => segs [.n 6 (bx0 Q.pt), .n 6 (bx1 Q.pt), .n 6 (by0 Q.pt), .n 6 (by1 Q.pt), .b (bi Q.pt)] | _ => segs [.n 6 (bx0 S.pt), .n 6 (bx1 S.pt), .n 6 (by0 S.pt), .n 6 (by1 S.pt), .b (bi S.pt)]) (fun j_ => match j_ with | 0 => segs [.n 6 (bx0 P.pt), .n 6 (bx1 P.pt), .n 6 (by0 P.pt), .n 6 (by1 P.pt), .b (bi P.pt)] | 1 => segs [.n 6 (bx0 Q.pt), .n 6 (bx1 Q.pt), .n 6 (by0 Q.pt), .n 6 (by1 Q.pt), .b (bi Q.pt)] | _ => segs [.n 6 (bx0 S.pt), .n 6 (bx1 S.pt), .n 6 (by0 S.pt), .n 6 (by1 S.pt), .b (bi S.pt)]) [3, 4, 5, 6] (.inr ⟨rfl, by kernel_rfl⟩) (by kernel_rfl) rfl rfl rfl ?_ ?_)
  · refine GSteps.cons (gm_box 0 rfl (fun _ => rfl) (fun _ _ => rfl) (fun γ w h => ex_boxs (l := [.n 6 (bx0 P.pt), .n 6 (bx1 P.pt), .n 6 (by0 P.pt), .n 6 (by1 P.pt), .b (bi P.pt)]) rfl) rfl rfl rfl) ?_
    refine GSteps.cons (gm_box 1 rfl (fun _ => rfl) (fun _ _ => rfl) (fun γ w h => ex_boxs (l := [.n 6 (bx0 Q.pt), .n 6 (bx1 Q.pt), .n 6 (by0 Q.pt), .n 6 (by1 Q.pt), .b (bi Q.pt)]) rfl) rfl rfl rfl) ?_
    refine GSteps.cons (gm_box 2 rfl (fun _ => rfl) (fun _ _ => rfl) (fun γ w h => ex_boxs (l := [.n 6 (bx0 S.pt), .n 6 (bx1 S.pt), .n 6 (by0 S.pt), .n 6 (by1 S.pt), .b (bi S.pt)]) rfl) rfl rfl rfl) ?_
    refine GSteps.cons (gm_val (v := .bool false) rfl (fun _ => rfl) (fun _ => rfl) (fun γ w h => ex_assign _) rfl) ?_
    exact GSteps.nil
  intro γ1 w1 hb1 hB1 hn1
  refine th_r ?_
  have A2 : SB 28 w1 (γ1 0) [.n 6 (bx0 P.pt), .n 6 (bx1 P.pt), .n 6 (by0 P.pt), .n 6 (by1 P.pt), .b (bi P.pt)] := (hB1 0 (by decide)).2
  have le2 := (hB1 0 (by decide)).1
  have A3 : SB 28 w1 (γ1 1) [.n 6 (bx0 Q.pt), .n 6 (bx1 Q.pt), .n 6 (by0 Q.pt), .n 6 (by1 Q.pt), .b (bi Q.pt)] := (hB1 1 (by decide)).2
  have le3 := (hB1 1 (by decide)).1
  have A4 : SB 28 w1 (γ1 2) [.n 6 (bx0 S.pt), .n 6 (bx1 S.pt), .n 6 (by0 S.pt), .n 6 (by1 S.pt), .b (bi S.pt)] := (hB1 2 (by decide)).2
  have le4 := (hB1 2 (by decide)).1
  have HB5 := below_then (Below.refl w.heap.size w) hb1.out
  refine wp_seq ?_
  refine wp_seq (region_m (F := fun _ => ⟨List.toArray ((sv [.n 6 (bx0 P.pt), .n 6 (bx1 P.pt), .n 6 (by0 P.pt), .n 6 (by1 P.pt), .b (bi P.pt)]) :: (sv [.n 6 (bx0 Q.pt), .n 6 (bx1 Q.pt), .n 6 (by0 Q.pt), .n 6 (by1 Q.pt), .b (bi Q.pt)]) :: (sv [.n 6 (bx0 S.pt), .n 6 (bx1 S.pt), .n 6 (by0 S.pt), .n 6 (by1 S.pt), .b (bi S.pt)]) :: (.pointer (some ⟨(γ1 0), 0, none⟩)) :: (.pointer (some ⟨(γ1 1), 0, none⟩)) :: (.pointer (some ⟨(γ1 2), 0, none⟩)) :: (.bool false) :: undef :: undef :: (sv [.n 6 (bx0 P.pt), .n 6 (bx1 P.pt), .n 6 (by0 P.pt), .n 6 (by1 P.pt), .b (bi P.pt)]) :: (.bool true) :: (.bool false) :: (.bool false) :: (sv [.n 6 (bx0 Q.pt), .n 6 (bx1 Q.pt), .n 6 (by0 Q.pt), .n 6 (by1 Q.pt), .b (bi Q.pt)]) :: (.bool true) :: (.bool false) :: (.bool false) :: (.bool false) :: (sv [.n 6 (bx0 S.pt), .n 6 (bx1 S.pt), .n 6 (by0 S.pt), .n 6 (by1 S.pt), .b (bi S.pt)]) :: (.bool true) :: (.bool false) :: (.bool false) :: undef :: undef :: undef :: undef :: undef :: undef :: undef :: undef :: undef :: undef :: undef :: undef :: undef :: undef :: undef :: undef :: undef :: undef :: undef :: undef :: undef :: undef :: undef :: undef :: undef :: undef :: undef :: undef :: undef :: undef :: undef :: undef :: undef :: undef :: undef :: undef :: undef :: undef :: undef :: undef :: undef :: undef :: undef :: undef :: undef :: undef :: undef :: undef :: undef :: undef :: undef :: undef :: undef :: undef :: undef :: undef :: undef :: undef :: undef :: undef :: undef :: undef :: []), []⟩) 0 (fun _ => 0) (fun _ => 0) (fun _ => 0) (fun _ => []) (fun _ => []) [9, 10, 11, 12, 13, 14, 15, 16, 17, 18, 19, 20, 21] (.inr ⟨rfl, by kernel_rfl⟩) (by kernel_rfl) rfl rfl rfl ?_ ?_)
  · refine GSteps.cons (gm_val (v := sv [.n 6 (bx0 P.pt), .n 6 (bx1 P.pt), .n 6 (by0 P.pt), .n 6 (by1 P.pt), .b (bi P.pt)]) rfl (fun _ => rfl) (fun _ => rfl) (fun γ w h => ex_loads 0 5 (m := [.n 6 (bx0 P.pt), .n 6 (bx1 P.pt), .n 6 (by0 P.pt), .n 6 (by1 P.pt), .b (bi P.pt)]) flG2 rfl rfl (A2.keep h.out) rfl rfl) rfl) ?_
    refine GSteps.cons (gm_call (v := .bool true) rfl (fun _ => rfl) (fun _ => rfl) (fun γ w => ex_call (vs := [sv [.n 6 (bx0 P.pt), .n 6 (bx1 P.pt), .n 6 (by0 P.pt), .n 6 (by1 P.pt), .b (bi P.pt)]]) rfl Try.call5 rfl) (fun w h => r9Right_p P _) rfl) ?_
    refine GSteps.cons (gm_val (v := .bool false) rfl (fun _ => rfl) (fun _ => rfl) (fun γ w h => ex_not (r := true) rfl) rfl) ?_
    refine GSteps.cons (gm_val (v := .bool false) rfl (fun _ => rfl) (fun _ => rfl) (fun γ w h => ex_move _) rfl) ?_
    refine GSteps.cons (gm_val (v := sv [.n 6 (bx0 Q.pt), .n 6 (bx1 Q.pt), .n 6 (by0 Q.pt), .n 6 (by1 Q.pt), .b (bi Q.pt)]) rfl (fun _ => rfl) (fun _ => rfl) (fun γ w h => ex_loads 0 5 (m := [.n 6 (bx0 Q.pt), .n 6 (bx1 Q.pt), .n 6 (by0 Q.pt), .n 6 (by1 Q.pt), .b (bi Q.pt)]) flG2 rfl rfl (A3.keep h.out) rfl rfl) rfl) ?_
    refine GSteps.cons (gm_call (v := .bool true) rfl (fun _ => rfl) (fun _ => rfl) (fun γ w => ex_call (vs := [sv [.n 6 (bx0 Q.pt), .n 6 (bx1 Q.pt), .n 6 (by0 Q.pt), .n 6 (by1 Q.pt), .b (bi Q.pt)]]) rfl Try.call5 rfl) (fun w h => r9Right_p Q _) rfl) ?_
    refine GSteps.cons (gm_val (v := .bool false) rfl (fun _ => rfl) (fun _ => rfl) (fun γ w h => ex_not (r := true) rfl) rfl) ?_
    refine GSteps.cons (gm_val (v := .bool false) rfl (fun _ => rfl) (fun _ => rfl) (fun γ w h => ex_pick (r := false) rfl) rfl) ?_
    refine GSteps.cons (gm_val (v := .bool false) rfl (fun _ => rfl) (fun _ => rfl) (fun γ w h => ex_move _) rfl) ?_
    refine GSteps.cons (gm_val (v := sv [.n 6 (bx0 S.pt), .n 6 (bx1 S.pt), .n 6 (by0 S.pt), .n 6 (by1 S.pt), .b (bi S.pt)]) rfl (fun _ => rfl) (fun _ => rfl) (fun γ w h => ex_loads 0 5 (m := [.n 6 (bx0 S.pt), .n 6 (bx1 S.pt), .n 6 (by0 S.pt), .n 6 (by1 S.pt), .b (bi S.pt)]) flG2 rfl rfl (A4.keep h.out) rfl rfl) rfl) ?_
    refine GSteps.cons (gm_call (v := .bool true) rfl (fun _ => rfl) (fun _ => rfl) (fun γ w => ex_call (vs := [sv [.n 6 (bx0 S.pt), .n 6 (bx1 S.pt), .n 6 (by0 S.pt), .n 6 (by1 S.pt), .b (bi S.pt)]]) rfl Try.call5 rfl) (fun w h => r9Right_p S _) rfl) ?_
    refine GSteps.cons (gm_val (v := .bool false) rfl (fun _ => rfl) (fun _ => rfl) (fun γ w h => ex_not (r := true) rfl) rfl) ?_
    refine GSteps.cons (gm_val (v := .bool false) rfl (fun _ => rfl) (fun _ => rfl) (fun γ w h => ex_pick (r := false) rfl) rfl) ?_
    exact GSteps.nil
  intro _ w6 hb6 _ _
  refine th_r ?_
  have A7 := A2.keep hb6.out
  have A8 := A3.keep hb6.out
  have A9 := A4.keep hb6.out
  have HB10 := below_then HB5 hb6.out
  refine wp_cond_false rfl ?_
  refine wp_skip ?_
  refine th_r ?_
  refine wp_seq (region_m (F := fun γ => ⟨List.toArray ((sv [.n 6 (bx0 P.pt), .n 6 (bx1 P.pt), .n 6 (by0 P.pt), .n 6 (by1 P.pt), .b (bi P.pt)]) :: (sv [.n 6 (bx0 Q.pt), .n 6 (bx1 Q.pt), .n 6 (by0 Q.pt), .n 6 (by1 Q.pt), .b (bi Q.pt)]) :: (sv [.n 6 (bx0 S.pt), .n 6 (bx1 S.pt), .n 6 (by0 S.pt), .n 6 (by1 S.pt), .b (bi S.pt)]) :: (.pointer (some ⟨(γ1 0), 0, none⟩)) :: (.pointer (some ⟨(γ1 1), 0, none⟩)) :: (.pointer (some ⟨(γ1 2), 0, none⟩)) :: (.bool false) :: (.pointer (some ⟨γ 0, 0, none⟩)) :: (.int .i64 0) :: (sv [.n 6 (bx0 P.pt), .n 6 (bx1 P.pt), .n 6 (by0 P.pt), .n 6 (by1 P.pt), .b (bi P.pt)]) :: (.bool true) :: (.bool false) :: (.bool false) :: (sv [.n 6 (bx0 Q.pt), .n 6 (bx1 Q.pt), .n 6 (by0 Q.pt), .n 6 (by1 Q.pt), .b (bi Q.pt)]) :: (.bool true) :: (.bool false) :: (.bool false) :: (.bool false) :: (sv [.n 6 (bx0 S.pt), .n 6 (bx1 S.pt), .n 6 (by0 S.pt), .n 6 (by1 S.pt), .b (bi S.pt)]) :: (.bool true) :: (.bool false) :: (.bool false) :: undef :: (.tuple #[sv [.n 6 (bx0 N.pt), .n 6 (bx1 N.pt), .n 6 (by0 N.pt), .n 6 (by1 N.pt), .b (bi N.pt)], .int .i64 0]) :: (sv [.n 6 (bx0 P.pt), .n 6 (bx1 P.pt), .n 6 (by0 P.pt), .n 6 (by1 P.pt), .b (bi P.pt)]) :: (.tuple #[sv [.n 6 (bx0 N.pt), .n 6 (bx1 N.pt), .n 6 (by0 N.pt), .n 6 (by1 N.pt), .b (bi N.pt)], .int .i64 0]) :: (sv [.n 6 (bx0 N.pt), .n 6 (bx1 N.pt), .n 6 (by0 N.pt), .n 6 (by1 N.pt), .b (bi N.pt)]) :: (.int .i64 0) :: undef :: undef :: undef :: undef :: undef :: undef :: undef :: undef :: undef :: undef :: undef :: undef :: undef :: undef :: undef :: undef :: undef :: undef :: undef :: undef :: undef :: undef :: undef :: undef :: undef :: undef :: undef :: undef :: undef :: undef :: undef :: undef :: undef :: undef :: undef :: undef :: undef :: undef :: undef :: undef :: undef :: undef :: undef :: undef :: undef :: undef :: undef :: undef :: undef :: undef :: undef :: undef :: undef :: undef :: undef :: undef :: []), []⟩) 1 (fun _ => 28) (fun _ => 5) (fun _ => 6) (fun _ => segs [.n 6 0, .n 6 0, .n 6 0, .n 6 0, .b false]) (fun _ => segs [.n 6 (bx0 N.pt), .n 6 (bx1 N.pt), .n 6 (by0 N.pt), .n 6 (by1 N.pt), .b (bi N.pt)]) [24, 25, 23, 26, 27, 7, 8] (.inr ⟨rfl, by kernel_rfl⟩) (by kernel_rfl) rfl rfl rfl ?_ ?_)
  · refine GSteps.cons (gm_val (v := sv [.n 6 (bx0 P.pt), .n 6 (bx1 P.pt), .n 6 (by0 P.pt), .n 6 (by1 P.pt), .b (bi P.pt)]) rfl (fun _ => rfl) (fun _ => rfl) (fun γ w h => ex_loads 0 5 (m := [.n 6 (bx0 P.pt), .n 6 (bx1 P.pt), .n 6 (by0 P.pt), .n 6 (by1 P.pt), .b (bi P.pt)]) flG2 rfl rfl (A7.keep h.out) rfl rfl) rfl) ?_
    refine GSteps.cons (gm_call (v := .tuple #[sv [.n 6 (bx0 N.pt), .n 6 (bx1 N.pt), .n 6 (by0 N.pt), .n 6 (by1 N.pt), .b (bi N.pt)], .int .i64 0]) rfl (fun _ => rfl) (fun _ => rfl) (fun γ w => ex_call (vs := [sv [.n 6 (bx0 P.pt), .n 6 (bx1 P.pt), .n 6 (by0 P.pt), .n 6 (by1 P.pt), .b (bi P.pt)]]) rfl Try.call11 rfl) (fun w h => twoNeg_q P N hN.symm _) rfl) ?_
    refine GSteps.cons (gm_val (v := .tuple #[sv [.n 6 (bx0 N.pt), .n 6 (bx1 N.pt), .n 6 (by0 N.pt), .n 6 (by1 N.pt), .b (bi N.pt)], .int .i64 0]) rfl (fun _ => rfl) (fun _ => rfl) (fun γ w h => ex_move _) rfl) ?_
    refine GSteps.cons (gm_val (v := sv [.n 6 (bx0 N.pt), .n 6 (bx1 N.pt), .n 6 (by0 N.pt), .n 6 (by1 N.pt), .b (bi N.pt)]) rfl (fun _ => rfl) (fun _ => rfl) (fun γ w h => ex_extract (vs := [sv [.n 6 (bx0 N.pt), .n 6 (bx1 N.pt), .n 6 (by0 N.pt), .n 6 (by1 N.pt), .b (bi N.pt)], .int .i64 0]) rfl rfl) rfl) ?_
    refine GSteps.cons (gm_val (v := .int .i64 0) rfl (fun _ => rfl) (fun _ => rfl) (fun γ w h => ex_extract (vs := [sv [.n 6 (bx0 N.pt), .n 6 (bx1 N.pt), .n 6 (by0 N.pt), .n 6 (by1 N.pt), .b (bi N.pt)], .int .i64 0]) rfl rfl) rfl) ?_
    refine GSteps.cons (gm_new 0 rfl (fun _ => rfl) (fun _ _ => rfl) (fun γ w => ex_allocs (l := [.n 6 0, .n 6 0, .n 6 0, .n 6 0, .b false]) zG2) rfl (by kernel_rfl)) ?_
    refine GSteps.cons (gm_store 0 rfl rfl (fun _ => rfl) (len_segs (l := [.n 6 (bx0 N.pt), .n 6 (bx1 N.pt), .n 6 (by0 N.pt), .n 6 (by1 N.pt), .b (bi N.pt)]) (l' := [.n 6 0, .n 6 0, .n 6 0, .n 6 0, .b false]) rfl) (fun γ w h => ex_stores 0 5 (l := [.n 6 0, .n 6 0, .n 6 0, .n 6 0, .b false]) (m := [.n 6 (bx0 N.pt), .n 6 (bx1 N.pt), .n 6 (by0 N.pt), .n 6 (by1 N.pt), .b (bi N.pt)]) flG2.2 rfl rfl rfl rfl h rfl rfl) rfl rfl (by kernel_rfl)) ?_
    refine GSteps.cons (gm_val (v := .int .i64 0) rfl (fun _ => rfl) (fun _ => rfl) (fun γ w h => ex_assign _) rfl) ?_
    exact GSteps.nil
  intro γ11 w11 hb11 hB11 _
  refine th_r ?_
  have A12 := A7.keep hb11.out
  have A13 := A8.keep hb11.out
  have A14 := A9.keep hb11.out
  have A15 : SB 28 w11 (γ11 0) [.n 6 (bx0 N.pt), .n 6 (bx1 N.pt), .n 6 (by0 N.pt), .n 6 (by1 N.pt), .b (bi N.pt)] := (hB11 0 (by decide)).2
  have le15 := (hB11 0 (by decide)).1
  have HB16 := below_then HB10 hb11.out
  refine wp_seq (region_m (F := fun _ => ⟨List.toArray ((sv [.n 6 (bx0 P.pt), .n 6 (bx1 P.pt), .n 6 (by0 P.pt), .n 6 (by1 P.pt), .b (bi P.pt)]) :: (sv [.n 6 (bx0 Q.pt), .n 6 (bx1 Q.pt), .n 6 (by0 Q.pt), .n 6 (by1 Q.pt), .b (bi Q.pt)]) :: (sv [.n 6 (bx0 S.pt), .n 6 (bx1 S.pt), .n 6 (by0 S.pt), .n 6 (by1 S.pt), .b (bi S.pt)]) :: (.pointer (some ⟨(γ1 0), 0, none⟩)) :: (.pointer (some ⟨(γ1 1), 0, none⟩)) :: (.pointer (some ⟨(γ1 2), 0, none⟩)) :: (.bool true) :: (.pointer (some ⟨(γ11 0), 0, none⟩)) :: (.int .i64 0) :: (sv [.n 6 (bx0 P.pt), .n 6 (bx1 P.pt), .n 6 (by0 P.pt), .n 6 (by1 P.pt), .b (bi P.pt)]) :: (.bool true) :: (.bool false) :: (.bool false) :: (sv [.n 6 (bx0 Q.pt), .n 6 (bx1 Q.pt), .n 6 (by0 Q.pt), .n 6 (by1 Q.pt), .b (bi Q.pt)]) :: (.bool true) :: (.bool false) :: (.bool false) :: (.bool false) :: (sv [.n 6 (bx0 S.pt), .n 6 (bx1 S.pt), .n 6 (by0 S.pt), .n 6 (by1 S.pt), .b (bi S.pt)]) :: (.bool true) :: (.bool false) :: (.bool false) :: undef :: (.tuple #[sv [.n 6 (bx0 N.pt), .n 6 (bx1 N.pt), .n 6 (by0 N.pt), .n 6 (by1 N.pt), .b (bi N.pt)], .int .i64 0]) :: (sv [.n 6 (bx0 P.pt), .n 6 (bx1 P.pt), .n 6 (by0 P.pt), .n 6 (by1 P.pt), .b (bi P.pt)]) :: (.tuple #[sv [.n 6 (bx0 N.pt), .n 6 (bx1 N.pt), .n 6 (by0 N.pt), .n 6 (by1 N.pt), .b (bi N.pt)], .int .i64 0]) :: (sv [.n 6 (bx0 N.pt), .n 6 (bx1 N.pt), .n 6 (by0 N.pt), .n 6 (by1 N.pt), .b (bi N.pt)]) :: (.int .i64 0) :: (.bool true) :: (.bool true) :: (.int .i64 0) :: (.bool true) :: (.bool true) :: (.bool true) :: (sv [.n 6 (bx0 P.pt), .n 6 (bx1 P.pt), .n 6 (by0 P.pt), .n 6 (by1 P.pt), .b (bi P.pt)]) :: (sv [.n 6 (bx0 Q.pt), .n 6 (bx1 Q.pt), .n 6 (by0 Q.pt), .n 6 (by1 Q.pt), .b (bi Q.pt)]) :: (sv [.n 6 (bx0 A.pt), .n 6 (bx1 A.pt), .n 6 (by0 A.pt), .n 6 (by1 A.pt), .b (bi A.pt)]) :: (sv [.n 6 (bx0 Q.pt), .n 6 (bx1 Q.pt), .n 6 (by0 Q.pt), .n 6 (by1 Q.pt), .b (bi Q.pt)]) :: (sv [.n 6 (bx0 P.pt), .n 6 (bx1 P.pt), .n 6 (by0 P.pt), .n 6 (by1 P.pt), .b (bi P.pt)]) :: (sv [.n 6 (bx0 A.pt), .n 6 (bx1 A.pt), .n 6 (by0 A.pt), .n 6 (by1 A.pt), .b (bi A.pt)]) :: (.bool true) :: (.bool true) :: (.bool true) :: (sv [.n 6 (bx0 P.pt), .n 6 (bx1 P.pt), .n 6 (by0 P.pt), .n 6 (by1 P.pt), .b (bi P.pt)]) :: (sv [.n 6 (bx0 Q.pt), .n 6 (bx1 Q.pt), .n 6 (by0 Q.pt), .n 6 (by1 Q.pt), .b (bi Q.pt)]) :: (sv [.n 6 (bx0 A.pt), .n 6 (bx1 A.pt), .n 6 (by0 A.pt), .n 6 (by1 A.pt), .b (bi A.pt)]) :: (sv [.n 6 (bx0 S.pt), .n 6 (bx1 S.pt), .n 6 (by0 S.pt), .n 6 (by1 S.pt), .b (bi S.pt)]) :: (sv [.n 6 (bx0 G.pt), .n 6 (bx1 G.pt), .n 6 (by0 G.pt), .n 6 (by1 G.pt), .b (bi G.pt)]) :: (sv [.n 6 (bx0 P.pt), .n 6 (bx1 P.pt), .n 6 (by0 P.pt), .n 6 (by1 P.pt), .b (bi P.pt)]) :: (sv [.n 6 (bx0 Q.pt), .n 6 (bx1 Q.pt), .n 6 (by0 Q.pt), .n 6 (by1 Q.pt), .b (bi Q.pt)]) :: (sv [.n 6 (bx0 S.pt), .n 6 (bx1 S.pt), .n 6 (by0 S.pt), .n 6 (by1 S.pt), .b (bi S.pt)]) :: (sv [.n 6 (bx0 B.pt), .n 6 (bx1 B.pt), .n 6 (by0 B.pt), .n 6 (by1 B.pt), .b (bi B.pt)]) :: (sv [.n 6 (bx0 G.pt), .n 6 (bx1 G.pt), .n 6 (by0 G.pt), .n 6 (by1 G.pt), .b (bi G.pt)]) :: (.bool true) :: (.bool true) :: (.bool true) :: (sv [.n 6 (bx0 P.pt), .n 6 (bx1 P.pt), .n 6 (by0 P.pt), .n 6 (by1 P.pt), .b (bi P.pt)]) :: (sv [.n 6 (bx0 Z2.pt), .n 6 (bx1 Z2.pt), .n 6 (by0 Z2.pt), .n 6 (by1 Z2.pt), .b (bi Z2.pt)]) :: (sv [.n 6 (bx0 P.pt), .n 6 (bx1 P.pt), .n 6 (by0 P.pt), .n 6 (by1 P.pt), .b (bi P.pt)]) :: (sv [.n 6 (bx0 P.pt), .n 6 (bx1 P.pt), .n 6 (by0 P.pt), .n 6 (by1 P.pt), .b (bi P.pt)]) :: (.bool true) :: (.bool true) :: (.bool true) :: (sv [.n 6 (bx0 P.pt), .n 6 (bx1 P.pt), .n 6 (by0 P.pt), .n 6 (by1 P.pt), .b (bi P.pt)]) :: (sv [.n 6 (bx0 N.pt), .n 6 (bx1 N.pt), .n 6 (by0 N.pt), .n 6 (by1 N.pt), .b (bi N.pt)]) :: (sv [.n 6 (bx0 Z2.pt), .n 6 (bx1 Z2.pt), .n 6 (by0 Z2.pt), .n 6 (by1 Z2.pt), .b (bi Z2.pt)]) :: (sv [.n 6 (bx0 Z2.pt), .n 6 (bx1 Z2.pt), .n 6 (by0 Z2.pt), .n 6 (by1 Z2.pt), .b (bi Z2.pt)]) :: (.bool true) :: (.bool true) :: (.bool true) :: (sv [.n 6 (bx0 P.pt), .n 6 (bx1 P.pt), .n 6 (by0 P.pt), .n 6 (by1 P.pt), .b (bi P.pt)]) :: (sv [.n 6 (bx0 Q.pt), .n 6 (bx1 Q.pt), .n 6 (by0 Q.pt), .n 6 (by1 Q.pt), .b (bi Q.pt)]) :: (sv [.n 6 (bx0 A.pt), .n 6 (bx1 A.pt), .n 6 (by0 A.pt), .n 6 (by1 A.pt), .b (bi A.pt)]) :: (sv [.n 6 (bx0 N.pt), .n 6 (bx1 N.pt), .n 6 (by0 N.pt), .n 6 (by1 N.pt), .b (bi N.pt)]) :: (sv [.n 6 (bx0 Q.pt), .n 6 (bx1 Q.pt), .n 6 (by0 Q.pt), .n 6 (by1 Q.pt), .b (bi Q.pt)]) :: (sv [.n 6 (bx0 Q.pt), .n 6 (bx1 Q.pt), .n 6 (by0 Q.pt), .n 6 (by1 Q.pt), .b (bi Q.pt)]) :: (.bool true) :: (.bool true) :: (.bool true) :: (sv [.n 6 (bx0 P.pt), .n 6 (bx1 P.pt), .n 6 (by0 P.pt), .n 6 (by1 P.pt), .b (bi P.pt)]) :: (sv [.n 6 (bx0 Q.pt), .n 6 (bx1 Q.pt), .n 6 (by0 Q.pt), .n 6 (by1 Q.pt), .b (bi Q.pt)]) :: (sv [.n 6 (bx0 A.pt), .n 6 (bx1 A.pt), .n 6 (by0 A.pt), .n 6 (by1 A.pt), .b (bi A.pt)]) :: (.bool true) :: (.bool true) :: []), []⟩) 0 (fun _ => 0) (fun _ => 0) (fun _ => 0) (fun _ => []) (fun _ => []) [28, 29, 30, 31, 32, 33, 34, 35, 36, 37, 38, 39, 40, 41, 42, 43, 44, 45, 46, 47, 48, 49, 50, 51, 52, 53, 54, 55, 56, 57, 58, 59, 60, 61, 62, 63, 64, 65, 66, 67, 68, 69, 70, 71, 72, 73, 74, 75, 76, 77, 78, 79, 80, 81, 82, 83, 6] (.inl ⟨rfl, by kernel_rfl⟩) (by kernel_rfl) rfl rfl rfl ?_ ?_)
  · refine GSteps.cons (gm_call (v := .bool true) rfl (fun _ => rfl) (fun _ => rfl) (fun γ w => ex_call (vs := []) rfl Try.call6 rfl) (fun w h => twoalive_v _) rfl) ?_
    refine GSteps.cons (gm_val (v := .bool true) rfl (fun _ => rfl) (fun _ => rfl) (fun γ w h => ex_move _) rfl) ?_
    refine GSteps.cons (gm_val (v := .int .i64 0) rfl (fun _ => rfl) (fun _ => rfl) (fun γ w h => ex_move _) rfl) ?_
    refine GSteps.cons (gm_val (v := .bool true) rfl (fun _ => rfl) (fun _ => rfl) (fun γ w h => ex_eqi rfl rfl _ rfl) rfl) ?_
    refine GSteps.cons (gm_val (v := .bool true) rfl (fun _ => rfl) (fun _ => rfl) (fun γ w h => ex_pick (r := true) rfl) rfl) ?_
    refine GSteps.cons (gm_val (v := .bool true) rfl (fun _ => rfl) (fun _ => rfl) (fun γ w h => ex_move _) rfl) ?_
    refine GSteps.cons (gm_val (v := sv [.n 6 (bx0 P.pt), .n 6 (bx1 P.pt), .n 6 (by0 P.pt), .n 6 (by1 P.pt), .b (bi P.pt)]) rfl (fun _ => rfl) (fun _ => rfl) (fun γ w h => ex_loads 0 5 (m := [.n 6 (bx0 P.pt), .n 6 (bx1 P.pt), .n 6 (by0 P.pt), .n 6 (by1 P.pt), .b (bi P.pt)]) flG2 rfl rfl (A12.keep h.out) rfl rfl) rfl) ?_
    refine GSteps.cons (gm_val (v := sv [.n 6 (bx0 Q.pt), .n 6 (bx1 Q.pt), .n 6 (by0 Q.pt), .n 6 (by1 Q.pt), .b (bi Q.pt)]) rfl (fun _ => rfl) (fun _ => rfl) (fun γ w h => ex_loads 0 5 (m := [.n 6 (bx0 Q.pt), .n 6 (bx1 Q.pt), .n 6 (by0 Q.pt), .n 6 (by1 Q.pt), .b (bi Q.pt)]) flG2 rfl rfl (A13.keep h.out) rfl rfl) rfl) ?_
    refine GSteps.cons (gm_call (v := sv [.n 6 (bx0 A.pt), .n 6 (bx1 A.pt), .n 6 (by0 A.pt), .n 6 (by1 A.pt), .b (bi A.pt)]) rfl (fun _ => rfl) (fun _ => rfl) (fun γ w => ex_call (vs := [sv [.n 6 (bx0 P.pt), .n 6 (bx1 P.pt), .n 6 (by0 P.pt), .n 6 (by1 P.pt), .b (bi P.pt)], sv [.n 6 (bx0 Q.pt), .n 6 (bx1 Q.pt), .n 6 (by0 Q.pt), .n 6 (by1 Q.pt), .b (bi Q.pt)]]) rfl Try.call12 rfl) (fun w h => twoadd_v P Q A hA.symm _) rfl) ?_
    refine GSteps.cons (gm_val (v := sv [.n 6 (bx0 Q.pt), .n 6 (bx1 Q.pt), .n 6 (by0 Q.pt), .n 6 (by1 Q.pt), .b (bi Q.pt)]) rfl (fun _ => rfl) (fun _ => rfl) (fun γ w h => ex_loads 0 5 (m := [.n 6 (bx0 Q.pt), .n 6 (bx1 Q.pt), .n 6 (by0 Q.pt), .n 6 (by1 Q.pt), .b (bi Q.pt)]) flG2 rfl rfl (A13.keep h.out) rfl rfl) rfl) ?_
    refine GSteps.cons (gm_val (v := sv [.n 6 (bx0 P.pt), .n 6 (bx1 P.pt), .n 6 (by0 P.pt), .n 6 (by1 P.pt), .b (bi P.pt)]) rfl (fun _ => rfl) (fun _ => rfl) (fun γ w h => ex_loads 0 5 (m := [.n 6 (bx0 P.pt), .n 6 (bx1 P.pt), .n 6 (by0 P.pt), .n 6 (by1 P.pt), .b (bi P.pt)]) flG2 rfl rfl (A12.keep h.out) rfl rfl) rfl) ?_
    refine GSteps.cons (gm_call (v := sv [.n 6 (bx0 A.pt), .n 6 (bx1 A.pt), .n 6 (by0 A.pt), .n 6 (by1 A.pt), .b (bi A.pt)]) rfl (fun _ => rfl) (fun _ => rfl) (fun γ w => ex_call (vs := [sv [.n 6 (bx0 Q.pt), .n 6 (bx1 Q.pt), .n 6 (by0 Q.pt), .n 6 (by1 Q.pt), .b (bi Q.pt)], sv [.n 6 (bx0 P.pt), .n 6 (bx1 P.pt), .n 6 (by0 P.pt), .n 6 (by1 P.pt), .b (bi P.pt)]]) rfl Try.call12 rfl) (fun w h => twoadd_v Q P A ((EP.add_comm C2 Q P).trans hA.symm) _) rfl) ?_
    refine GSteps.cons (gm_val (v := .bool true) rfl (fun _ => rfl) (fun _ => rfl) (fun γ w h => ex_eqs gdG2 eqG2 rfl rfl rfl (shG2_of (bx0_B A.pt) (bx1_B A.pt) (by0_B A.pt) (by1_B A.pt)) (shG2_of (bx0_B A.pt) (bx1_B A.pt) (by0_B A.pt) (by1_B A.pt)) true (by simp)) rfl) ?_
    refine GSteps.cons (gm_val (v := .bool true) rfl (fun _ => rfl) (fun _ => rfl) (fun γ w h => ex_pick (r := true) rfl) rfl) ?_
    refine GSteps.cons (gm_val (v := .bool true) rfl (fun _ => rfl) (fun _ => rfl) (fun γ w h => ex_move _) rfl) ?_
    refine GSteps.cons (gm_val (v := sv [.n 6 (bx0 P.pt), .n 6 (bx1 P.pt), .n 6 (by0 P.pt), .n 6 (by1 P.pt), .b (bi P.pt)]) rfl (fun _ => rfl) (fun _ => rfl) (fun γ w h => ex_loads 0 5 (m := [.n 6 (bx0 P.pt), .n 6 (bx1 P.pt), .n 6 (by0 P.pt), .n 6 (by1 P.pt), .b (bi P.pt)]) flG2 rfl rfl (A12.keep h.out) rfl rfl) rfl) ?_
    refine GSteps.cons (gm_val (v := sv [.n 6 (bx0 Q.pt), .n 6 (bx1 Q.pt), .n 6 (by0 Q.pt), .n 6 (by1 Q.pt), .b (bi Q.pt)]) rfl (fun _ => rfl) (fun _ => rfl) (fun γ w h => ex_loads 0 5 (m := [.n 6 (bx0 Q.pt), .n 6 (bx1 Q.pt), .n 6 (by0 Q.pt), .n 6 (by1 Q.pt), .b (bi Q.pt)]) flG2 rfl rfl (A13.keep h.out) rfl rfl) rfl) ?_
    refine GSteps.cons (gm_call (v := sv [.n 6 (bx0 A.pt), .n 6 (bx1 A.pt), .n 6 (by0 A.pt), .n 6 (by1 A.pt), .b (bi A.pt)]) rfl (fun _ => rfl) (fun _ => rfl) (fun γ w => ex_call (vs := [sv [.n 6 (bx0 P.pt), .n 6 (bx1 P.pt), .n 6 (by0 P.pt), .n 6 (by1 P.pt), .b (bi P.pt)], sv [.n 6 (bx0 Q.pt), .n 6 (bx1 Q.pt), .n 6 (by0 Q.pt), .n 6 (by1 Q.pt), .b (bi Q.pt)]]) rfl Try.call12 rfl) (fun w h => twoadd_v P Q A hA.symm _) rfl) ?_
    refine GSteps.cons (gm_val (v := sv [.n 6 (bx0 S.pt), .n 6 (bx1 S.pt), .n 6 (by0 S.pt), .n 6 (by1 S.pt), .b (bi S.pt)]) rfl (fun _ => rfl) (fun _ => rfl) (fun γ w h => ex_loads 0 5 (m := [.n 6 (bx0 S.pt), .n 6 (bx1 S.pt), .n 6 (by0 S.pt), .n 6 (by1 S.pt), .b (bi S.pt)]) flG2 rfl rfl (A14.keep h.out) rfl rfl) rfl) ?_
    refine GSteps.cons (gm_call (v := sv [.n 6 (bx0 G.pt), .n 6 (bx1 G.pt), .n 6 (by0 G.pt), .n 6 (by1 G.pt), .b (bi G.pt)]) rfl (fun _ => rfl) (fun _ => rfl) (fun γ w => ex_call (vs := [sv [.n 6 (bx0 A.pt), .n 6 (bx1 A.pt), .n 6 (by0 A.pt), .n 6 (by1 A.pt), .b (bi A.pt)], sv [.n 6 (bx0 S.pt), .n 6 (bx1 S.pt), .n 6 (by0 S.pt), .n 6 (by1 S.pt), .b (bi S.pt)]]) rfl Try.call12 rfl) (fun w h => twoadd_v A S G hG.symm _) rfl) ?_
    refine GSteps.cons (gm_val (v := sv [.n 6 (bx0 P.pt), .n 6 (bx1 P.pt), .n 6 (by0 P.pt), .n 6 (by1 P.pt), .b (bi P.pt)]) rfl (fun _ => rfl) (fun _ => rfl) (fun γ w h => ex_loads 0 5 (m := [.n 6 (bx0 P.pt), .n 6 (bx1 P.pt), .n 6 (by0 P.pt), .n 6 (by1 P.pt), .b (bi P.pt)]) flG2 rfl rfl (A12.keep h.out) rfl rfl) rfl) ?_
    refine GSteps.cons (gm_val (v := sv [.n 6 (bx0 Q.pt), .n 6 (bx1 Q.pt), .n 6 (by0 Q.pt), .n 6 (by1 Q.pt), .b (bi Q.pt)]) rfl (fun _ => rfl) (fun _ => rfl) (fun γ w h => ex_loads 0 5 (m := [.n 6 (bx0 Q.pt), .n 6 (bx1 Q.pt), .n 6 (by0 Q.pt), .n 6 (by1 Q.pt), .b (bi Q.pt)]) flG2 rfl rfl (A13.keep h.out) rfl rfl) rfl) ?_
    refine GSteps.cons (gm_val (v := sv [.n 6 (bx0 S.pt), .n 6 (bx1 S.pt), .n 6 (by0 S.pt), .n 6 (by1 S.pt), .b (bi S.pt)]) rfl (fun _ => rfl) (fun _ => rfl) (fun γ w h => ex_loads 0 5 (m := [.n 6 (bx0 S.pt), .n 6 (bx1 S.pt), .n 6 (by0 S.pt), .n 6 (by1 S.pt), .b (bi S.pt)]) flG2 rfl rfl (A14.keep h.out) rfl rfl) rfl) ?_
    refine GSteps.cons (gm_call (v := sv [.n 6 (bx0 B.pt), .n 6 (bx1 B.pt), .n 6 (by0 B.pt), .n 6 (by1 B.pt), .b (bi B.pt)]) rfl (fun _ => rfl) (fun _ => rfl) (fun γ w => ex_call (vs := [sv [.n 6 (bx0 Q.pt), .n 6 (bx1 Q.pt), .n 6 (by0 Q.pt), .n 6 (by1 Q.pt), .b (bi Q.pt)], sv [.n 6 (bx0 S.pt), .n 6 (bx1 S.pt), .n 6 (by0 S.pt), .n 6 (by1 S.pt), .b (bi S.pt)]]) rfl Try.call12 rfl) (fun w h => twoadd_v Q S B hB.symm _) rfl) ?_
    refine GSteps.cons (gm_call (v := sv [.n 6 (bx0 G.pt), .n 6 (bx1 G.pt), .n 6 (by0 G.pt), .n 6 (by1 G.pt), .b (bi G.pt)]) rfl (fun _ => rfl) (fun _ => rfl) (fun γ w => ex_call (vs := [sv [.n 6 (bx0 P.pt), .n 6 (bx1 P.pt), .n 6 (by0 P.pt), .n 6 (by1 P.pt), .b (bi P.pt)], sv [.n 6 (bx0 B.pt), .n 6 (bx1 B.pt), .n 6 (by0 B.pt), .n 6 (by1 B.pt), .b (bi B.pt)]]) rfl Try.call12 rfl) (fun w h => twoadd_v P B G (by rw [hG, hB, hA, EP.add_assoc]) _) rfl) ?_
    refine GSteps.cons (gm_val (v := .bool true) rfl (fun _ => rfl) (fun _ => rfl) (fun γ w h => ex_eqs gdG2 eqG2 rfl rfl rfl (shG2_of (bx0_B G.pt) (bx1_B G.pt) (by0_B G.pt) (by1_B G.pt)) (shG2_of (bx0_B G.pt) (bx1_B G.pt) (by0_B G.pt) (by1_B G.pt)) true (by simp)) rfl) ?_
    refine GSteps.cons (gm_val (v := .bool true) rfl (fun _ => rfl) (fun _ => rfl) (fun γ w h => ex_pick (r := true) rfl) rfl) ?_
    refine GSteps.cons (gm_val (v := .bool true) rfl (fun _ => rfl) (fun _ => rfl) (fun γ w h => ex_move _) rfl) ?_
    refine GSteps.cons (gm_val (v := sv [.n 6 (bx0 P.pt), .n 6 (bx1 P.pt), .n 6 (by0 P.pt), .n 6 (by1 P.pt), .b (bi P.pt)]) rfl (fun _ => rfl) (fun _ => rfl) (fun γ w h => ex_loads 0 5 (m := [.n 6 (bx0 P.pt), .n 6 (bx1 P.pt), .n 6 (by0 P.pt), .n 6 (by1 P.pt), .b (bi P.pt)]) flG2 rfl rfl (A12.keep h.out) rfl rfl) rfl) ?_
    refine GSteps.cons (gm_call (v := sv [.n 6 (bx0 Z2.pt), .n 6 (bx1 Z2.pt), .n 6 (by0 Z2.pt), .n 6 (by1 Z2.pt), .b (bi Z2.pt)]) rfl (fun _ => rfl) (fun _ => rfl) (fun γ w => ex_call (vs := []) rfl Try.call10 rfl) (fun w h => twoZero_p _) rfl) ?_
    refine GSteps.cons (gm_call (v := sv [.n 6 (bx0 P.pt), .n 6 (bx1 P.pt), .n 6 (by0 P.pt), .n 6 (by1 P.pt), .b (bi P.pt)]) rfl (fun _ => rfl) (fun _ => rfl) (fun γ w => ex_call (vs := [sv [.n 6 (bx0 P.pt), .n 6 (bx1 P.pt), .n 6 (by0 P.pt), .n 6 (by1 P.pt), .b (bi P.pt)], sv [.n 6 (bx0 Z2.pt), .n 6 (bx1 Z2.pt), .n 6 (by0 Z2.pt), .n 6 (by1 Z2.pt), .b (bi Z2.pt)]]) rfl Try.call12 rfl) (fun w h => twoadd_v P Z2 P (EP.add_zero C2 P) _) rfl) ?_
    refine GSteps.cons (gm_val (v := sv [.n 6 (bx0 P.pt), .n 6 (bx1 P.pt), .n 6 (by0 P.pt), .n 6 (by1 P.pt), .b (bi P.pt)]) rfl (fun _ => rfl) (fun _ => rfl) (fun γ w h => ex_loads 0 5 (m := [.n 6 (bx0 P.pt), .n 6 (bx1 P.pt), .n 6 (by0 P.pt), .n 6 (by1 P.pt), .b (bi P.pt)]) flG2 rfl rfl (A12.keep h.out) rfl rfl) rfl) ?_
    refine GSteps.cons (gm_val (v := .bool true) rfl (fun _ => rfl) (fun _ => rfl) (fun γ w h => ex_eqs gdG2 eqG2 rfl rfl rfl (shG2_of (bx0_B P.pt) (bx1_B P.pt) (by0_B P.pt) (by1_B P.pt)) (shG2_of (bx0_B P.pt) (bx1_B P.pt) (by0_B P.pt) (by1_B P.pt)) true (by simp)) rfl) ?_
    refine GSteps.cons (gm_val (v := .bool true) rfl (fun _ => rfl) (fun _ => rfl) (fun γ w h => ex_pick (r := true) rfl) rfl) ?_
    refine GSteps.cons (gm_val (v := .bool true) rfl (fun _ => rfl) (fun _ => rfl) (fun γ w h => ex_move _) rfl) ?_
    refine GSteps.cons (gm_val (v := sv [.n 6 (bx0 P.pt), .n 6 (bx1 P.pt), .n 6 (by0 P.pt), .n 6 (by1 P.pt), .b (bi P.pt)]) rfl (fun _ => rfl) (fun _ => rfl) (fun γ w h => ex_loads 0 5 (m := [.n 6 (bx0 P.pt), .n 6 (bx1 P.pt), .n 6 (by0 P.pt), .n 6 (by1 P.pt), .b (bi P.pt)]) flG2 rfl rfl (A12.keep h.out) rfl rfl) rfl) ?_
    refine GSteps.cons (gm_val (v := sv [.n 6 (bx0 N.pt), .n 6 (bx1 N.pt), .n 6 (by0 N.pt), .n 6 (by1 N.pt), .b (bi N.pt)]) rfl (fun _ => rfl) (fun _ => rfl) (fun γ w h => ex_loads 0 5 (m := [.n 6 (bx0 N.pt), .n 6 (bx1 N.pt), .n 6 (by0 N.pt), .n 6 (by1 N.pt), .b (bi N.pt)]) flG2 rfl rfl (A15.keep h.out) rfl rfl) rfl) ?_
    refine GSteps.cons (gm_call (v := sv [.n 6 (bx0 Z2.pt), .n 6 (bx1 Z2.pt), .n 6 (by0 Z2.pt), .n 6 (by1 Z2.pt), .b (bi Z2.pt)]) rfl (fun _ => rfl) (fun _ => rfl) (fun γ w => ex_call (vs := [sv [.n 6 (bx0 P.pt), .n 6 (bx1 P.pt), .n 6 (by0 P.pt), .n 6 (by1 P.pt), .b (bi P.pt)], sv [.n 6 (bx0 N.pt), .n 6 (bx1 N.pt), .n 6 (by0 N.pt), .n 6 (by1 N.pt), .b (bi N.pt)]]) rfl Try.call12 rfl) (fun w h => twoadd_v P N Z2 (by rw [hN]; exact EP.add_neg C2 P) _) rfl) ?_
    refine GSteps.cons (gm_call (v := sv [.n 6 (bx0 Z2.pt), .n 6 (bx1 Z2.pt), .n 6 (by0 Z2.pt), .n 6 (by1 Z2.pt), .b (bi Z2.pt)]) rfl (fun _ => rfl) (fun _ => rfl) (fun γ w => ex_call (vs := []) rfl Try.call10 rfl) (fun w h => twoZero_p _) rfl) ?_
    refine GSteps.cons (gm_val (v := .bool true) rfl (fun _ => rfl) (fun _ => rfl) (fun γ w h => ex_eqs gdG2 eqG2 rfl rfl rfl (shG2_of (bx0_B Z2.pt) (bx1_B Z2.pt) (by0_B Z2.pt) (by1_B Z2.pt)) (shG2_of (bx0_B Z2.pt) (bx1_B Z2.pt) (by0_B Z2.pt) (by1_B Z2.pt)) true (by simp)) rfl) ?_
    refine GSteps.cons (gm_val (v := .bool true) rfl (fun _ => rfl) (fun _ => rfl) (fun γ w h => ex_pick (r := true) rfl) rfl) ?_
    refine GSteps.cons (gm_val (v := .bool true) rfl (fun _ => rfl) (fun _ => rfl) (fun γ w h => ex_move _) rfl) ?_
    refine GSteps.cons (gm_val (v := sv [.n 6 (bx0 P.pt), .n 6 (bx1 P.pt), .n 6 (by0 P.pt), .n 6 (by1 P.pt), .b (bi P.pt)]) rfl (fun _ => rfl) (fun _ => rfl) (fun γ w h => ex_loads 0 5 (m := [.n 6 (bx0 P.pt), .n 6 (bx1 P.pt), .n 6 (by0 P.pt), .n 6 (by1 P.pt), .b (bi P.pt)]) flG2 rfl rfl (A12.keep h.out) rfl rfl) rfl) ?_
    refine GSteps.cons (gm_val (v := sv [.n 6 (bx0 Q.pt), .n 6 (bx1 Q.pt), .n 6 (by0 Q.pt), .n 6 (by1 Q.pt), .b (bi Q.pt)]) rfl (fun _ => rfl) (fun _ => rfl) (fun γ w h => ex_loads 0 5 (m := [.n 6 (bx0 Q.pt), .n 6 (bx1 Q.pt), .n 6 (by0 Q.pt), .n 6 (by1 Q.pt), .b (bi Q.pt)]) flG2 rfl rfl (A13.keep h.out) rfl rfl) rfl) ?_
    refine GSteps.cons (gm_call (v := sv [.n 6 (bx0 A.pt), .n 6 (bx1 A.pt), .n 6 (by0 A.pt), .n 6 (by1 A.pt), .b (bi A.pt)]) rfl (fun _ => rfl) (fun _ => rfl) (fun γ w => ex_call (vs := [sv [.n 6 (bx0 P.pt), .n 6 (bx1 P.pt), .n 6 (by0 P.pt), .n 6 (by1 P.pt), .b (bi P.pt)], sv [.n 6 (bx0 Q.pt), .n 6 (bx1 Q.pt), .n 6 (by0 Q.pt), .n 6 (by1 Q.pt), .b (bi Q.pt)]]) rfl Try.call12 rfl) (fun w h => twoadd_v P Q A hA.symm _) rfl) ?_
    refine GSteps.cons (gm_val (v := sv [.n 6 (bx0 N.pt), .n 6 (bx1 N.pt), .n 6 (by0 N.pt), .n 6 (by1 N.pt), .b (bi N.pt)]) rfl (fun _ => rfl) (fun _ => rfl) (fun γ w h => ex_loads 0 5 (m := [.n 6 (bx0 N.pt), .n 6 (bx1 N.pt), .n 6 (by0 N.pt), .n 6 (by1 N.pt), .b (bi N.pt)]) flG2 rfl rfl (A15.keep h.out) rfl rfl) rfl) ?_
    refine GSteps.cons (gm_call (v := sv [.n 6 (bx0 Q.pt), .n 6 (bx1 Q.pt), .n 6 (by0 Q.pt), .n 6 (by1 Q.pt), .b (bi Q.pt)]) rfl (fun _ => rfl) (fun _ => rfl) (fun γ w => ex_call (vs := [sv [.n 6 (bx0 A.pt), .n 6 (bx1 A.pt), .n 6 (by0 A.pt), .n 6 (by1 A.pt), .b (bi A.pt)], sv [.n 6 (bx0 N.pt), .n 6 (bx1 N.pt), .n 6 (by0 N.pt), .n 6 (by1 N.pt), .b (bi N.pt)]]) rfl Try.call12 rfl) (fun w h => twoadd_v A N Q (by rw [hA, hN, EP.add_comm C2 P Q, EP.add_assoc, EP.add_neg, EP.add_zero]) _) rfl) ?_
    refine GSteps.cons (gm_val (v := sv [.n 6 (bx0 Q.pt), .n 6 (bx1 Q.pt), .n 6 (by0 Q.pt), .n 6 (by1 Q.pt), .b (bi Q.pt)]) rfl (fun _ => rfl) (fun _ => rfl) (fun γ w h => ex_loads 0 5 (m := [.n 6 (bx0 Q.pt), .n 6 (bx1 Q.pt), .n 6 (by0 Q.pt), .n 6 (by1 Q.pt), .b (bi Q.pt)]) flG2 rfl rfl (A13.keep h.out) rfl rfl) rfl) ?_
    refine GSteps.cons (gm_val (v := .bool true) rfl (fun _ => rfl) (fun _ => rfl) (fun γ w h => ex_eqs gdG2 eqG2 rfl rfl rfl (shG2_of (bx0_B Q.pt) (bx1_B Q.pt) (by0_B Q.pt) (by1_B Q.pt)) (shG2_of (bx0_B Q.pt) (bx1_B Q.pt) (by0_B Q.pt) (by1_B Q.pt)) true (by simp)) rfl) ?_
    refine GSteps.cons (gm_val (v := .bool true) rfl (fun _ => rfl) (fun _ => rfl) (fun γ w h => ex_pick (r := true) rfl) rfl) ?_
    refine GSteps.cons (gm_val (v := .bool true) rfl (fun _ => rfl) (fun _ => rfl) (fun γ w h => ex_move _) rfl) ?_
    refine GSteps.cons (gm_val (v := sv [.n 6 (bx0 P.pt), .n 6 (bx1 P.pt), .n 6 (by0 P.pt), .n 6 (by1 P.pt), .b (bi P.pt)]) rfl (fun _ => rfl) (fun _ => rfl) (fun γ w h => ex_loads 0 5 (m := [.n 6 (bx0 P.pt), .n 6 (bx1 P.pt), .n 6 (by0 P.pt), .n 6 (by1 P.pt), .b (bi P.pt)]) flG2 rfl rfl (A12.keep h.out) rfl rfl) rfl) ?_
    refine GSteps.cons (gm_val (v := sv [.n 6 (bx0 Q.pt), .n 6 (bx1 Q.pt), .n 6 (by0 Q.pt), .n 6 (by1 Q.pt), .b (bi Q.pt)]) rfl (fun _ => rfl) (fun _ => rfl) (fun γ w h => ex_loads 0 5 (m := [.n 6 (bx0 Q.pt), .n 6 (bx1 Q.pt), .n 6 (by0 Q.pt), .n 6 (by1 Q.pt), .b (bi Q.pt)]) flG2 rfl rfl (A13.keep h.out) rfl rfl) rfl) ?_
    refine GSteps.cons (gm_call (v := sv [.n 6 (bx0 A.pt), .n 6 (bx1 A.pt), .n 6 (by0 A.pt), .n 6 (by1 A.pt), .b (bi A.pt)]) rfl (fun _ => rfl) (fun _ => rfl) (fun γ w => ex_call (vs := [sv [.n 6 (bx0 P.pt), .n 6 (bx1 P.pt), .n 6 (by0 P.pt), .n 6 (by1 P.pt), .b (bi P.pt)], sv [.n 6 (bx0 Q.pt), .n 6 (bx1 Q.pt), .n 6 (by0 Q.pt), .n 6 (by1 Q.pt), .b (bi Q.pt)]]) rfl Try.call12 rfl) (fun w h => twoadd_v P Q A hA.symm _) rfl) ?_
    refine GSteps.cons (gm_call (v := .bool true) rfl (fun _ => rfl) (fun _ => rfl) (fun γ w => ex_call (vs := [sv [.n 6 (bx0 A.pt), .n 6 (bx1 A.pt), .n 6 (by0 A.pt), .n 6 (by1 A.pt), .b (bi A.pt)]]) rfl Try.call5 rfl) (fun w h => r9Right_p A _) rfl) ?_
    refine GSteps.cons (gm_val (v := .bool true) rfl (fun _ => rfl) (fun _ => rfl) (fun γ w h => ex_pick (r := true) rfl) rfl) ?_
    refine GSteps.cons (gm_val (v := .bool true) rfl (fun _ => rfl) (fun _ => rfl) (fun γ w h => ex_assign _) rfl) ?_
    exact GSteps.nil
  intro _ w17 hb17 _ _
  refine th_r ?_
  have A18 := A12.keep hb17.out
  have A19 := A13.keep hb17.out
  have A20 := A14.keep hb17.out
  have A21 := A15.keep hb17.out
  have HB22 := below_then HB16 hb17.out
  exact wp_ret (bodyPost_ret (ret1 Try.results4 (res_tmp rfl)) rfl ⟨rfl, HB22⟩)

theorem twoGroup_l (x0 : Nat) (x1 : Nat) (y0 : Nat) (y1 : Nat) (i : Bool) (x01 : Nat) (x11 : Nat) (y01 : Nat) (y11 : Nat) (i1 : Bool) (x02 : Nat) (x12 : Nat) (y02 : Nat) (y12 : Nat) (i2 : Bool) (hx0 : x0 < fpB) (hx1 : x1 < fpB) (hy0 : y0 < fpB) (hy1 : y1 < fpB) (hx01 : x01 < fpB) (hx11 : x11 < fpB) (hy01 : y01 < fpB) (hy11 : y11 < fpB) (hx02 : x02 < fpB) (hx12 : x12 < fpB) (hy02 : y02 < fpB) (hy12 : y12 < fpB) (w : World) :
    Calls Try.prog 4 #[sv [.n 6 x0, .n 6 x1, .n 6 y0, .n 6 y1, .b i], sv [.n 6 x01, .n 6 x11, .n 6 y01, .n 6 y11, .b i1], sv [.n 6 x02, .n 6 x12, .n 6 y02, .n 6 y12, .b i2]] w (Is (.bool true) w) := by
  by_cases o : RawOk2 x0 x1 y0 y1 i
  · obtain ⟨P, rfl, rfl, rfl, rfl, rfl⟩ := o
    by_cases o1 : RawOk2 x01 x11 y01 y11 i1
    · obtain ⟨Q, rfl, rfl, rfl, rfl, rfl⟩ := o1
      by_cases o2 : RawOk2 x02 x12 y02 y12 i2
      · obtain ⟨S, rfl, rfl, rfl, rfl, rfl⟩ := o2
        exact twoGroup_4 P Q S w
      · exact twoGroup_3 P Q x02 x12 y02 y12 i2 hx02 hx12 hy02 hy12 o2 w
    · exact twoGroup_2 P x01 x11 y01 y11 i1 hx01 hx11 hy01 hy11 o1 x02 x12 y02 y12 i2 w
  · exact twoGroup_1 x0 x1 y0 y1 i hx0 hx1 hy0 hy1 o x01 x11 y01 y11 i1 x02 x12 y02 y12 i2 w

end Go.Proofs.Ytmhieifjmgcbkaa

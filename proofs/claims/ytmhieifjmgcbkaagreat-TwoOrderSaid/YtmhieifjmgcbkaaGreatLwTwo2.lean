/- What is proved here: contracts of the reference's R, Less, minus and plus (layer 3); the laws of package two on how often a point is taken. -/
import Derived.Test.YtmhieifjmgcbkaaGreatNumFr
import Derived.Test.YtmhieifjmgcbkaaGreatRef1Fp
import Derived.Test.YtmhieifjmgcbkaaGreatFn1Fr
import Derived.Deep.RegionHeld3
import Derived.Test.YtmhieifjmgcbkaaGreatLwTwo1
namespace Go.Proofs.YtmhieifjmgcbkaaGreat
section
open Go.RowKit

theorem r3R_v (w : World) : Calls Tryz.prog 18 #[] w (Is (frV rN) w) := by
  rw [frM_lit]
  go_enter Tryz.func18, Tryz.ntmps18
  go_wp2
  refine bodyPost_ret (v := .agg #[.int .u64 18446744069414584321, .int .u64 6034159408538082302, .int .u64 3691218898639771653, .int .u64 8353516859464449352]) (by simp [results, Tryz.results18, go_sem]) rfl ⟨rfl, below_alloc w _⟩
end

section
open Go.RowKit Cv

theorem r3R_n2 (w : World) : Calls Tryz.prog 18 #[] w (Is (nv 4 [rN]) w) := by rw [nv4R]; exact r3R_v w
theorem fr_modB2 (a : Nat) : a % rN < frB := Nat.lt_trans (frM_mod a) frM_lt

set_option maxRecDepth 20000 in
set_option maxHeartbeats 4000000 in
theorem twoOrder_n (x0 : Nat) (x1 : Nat) (y0 : Nat) (y1 : Nat) (i : Bool) (hx0 : x0 < fpB) (hx1 : x1 < fpB) (hy0 : y0 < fpB) (hy1 : y1 < fpB) (h0 : ¬ RawOk2 x0 x1 y0 y1 i) (k l : Nat) (w : World) :
    Calls Tryz.prog 5 #[sv [.n 6 x0, .n 6 x1, .n 6 y0, .n 6 y1, .b i], nv 4 [k], nv 4 [l]] w (Is (.bool true) w) := by
  go_enter Tryz.func5, Tryz.ntmps5
  refine wp_seq (region_m (F := fun γ => ⟨List.toArray ((sv [.n 6 x0, .n 6 x1, .n 6 y0, .n 6 y1, .b i]) :: (nv 4 [k]) :: (nv 4 [l]) :: (.pointer (some ⟨γ 0, 0, none⟩)) :: (.pointer (some ⟨γ 1, 0, none⟩)) :: (.pointer (some ⟨γ 2, 0, none⟩)) :: (.bool false) :: undef :: undef :: undef :: undef :: undef :: undef :: undef :: undef :: undef :: undef :: undef :: undef :: undef :: undef :: undef :: undef :: undef :: undef :: undef :: undef :: undef :: undef :: undef :: undef :: undef :: undef :: undef :: undef :: undef :: undef :: undef :: undef :: undef :: undef :: undef :: undef :: undef :: undef :: undef :: undef :: undef :: undef :: undef :: undef :: undef :: undef :: undef :: undef :: undef :: undef :: undef :: undef :: undef :: undef :: undef :: undef :: undef :: undef :: undef :: undef :: undef :: undef :: undef :: undef :: undef :: undef :: undef :: []), []⟩) 3 (fun j_ => match j_ with | 0 => 28 | 1 => 41 | _ => 41) (fun j_ => match j_ with | 0 => 0 | 1 => 1 | _ => 2) (fun j_ => match j_ with | 0 => 0 | 1 => 1 | _ => 2) (fun j_ => match j_ with | 0 => segs [.n 6 x0, .n 6 x1, .n 6 y0, .n 6 y1, .b i] | 1 => segs [.n 4 k] | _ => segs [.n 4 l]) (fun j_ => match j_ with | 0 => segs [.n 6 x0, .n 6 x1, .n 6 y0, .n 6 y1, .b i] | 1 => segs [.n 4 k] | _ => segs [.n 4 l]) [3, 4, 5, 6] (.inr ⟨rfl, by kernel_rfl⟩) (by kernel_rfl) rfl rfl rfl ?_ ?_)
  · refine GSteps.cons (gm_box 0 rfl (fun _ => rfl) (fun _ _ => rfl) (fun γ w h => ex_boxs (l := [.n 6 x0, .n 6 x1, .n 6 y0, .n 6 y1, .b i]) rfl) rfl rfl rfl) ?_
    refine GSteps.cons (gm_box 1 rfl (fun _ => rfl) (fun _ _ => rfl) (fun γ w h => ex_boxsn (K := 4) (l := [k]) rfl) rfl rfl rfl) ?_
    refine GSteps.cons (gm_box 2 rfl (fun _ => rfl) (fun _ _ => rfl) (fun γ w h => ex_boxsn (K := 4) (l := [l]) rfl) rfl rfl rfl) ?_
    refine GSteps.cons (gm_val (v := .bool false) rfl (fun _ => rfl) (fun _ => rfl) (fun γ w h => ex_assign _) rfl) ?_
    exact GSteps.nil
  intro γ1 w1 hb1 hB1 hn1
  refine th_r ?_
  have A2 : SB 28 w1 (γ1 0) [.n 6 x0, .n 6 x1, .n 6 y0, .n 6 y1, .b i] := (hB1 0 (by decide)).2
  have le2 := (hB1 0 (by decide)).1
  have A3 : SB 41 w1 (γ1 1) [.n 4 k] := (hB1 1 (by decide)).2
  have le3 := (hB1 1 (by decide)).1
  have A4 : SB 41 w1 (γ1 2) [.n 4 l] := (hB1 2 (by decide)).2
  have le4 := (hB1 2 (by decide)).1
  have HB5 := below_then (Below.refl w.heap.size w) hb1.out
  refine wp_seq ?_
  refine wp_seq (region_m (F := fun _ => ⟨List.toArray ((sv [.n 6 x0, .n 6 x1, .n 6 y0, .n 6 y1, .b i]) :: (nv 4 [k]) :: (nv 4 [l]) :: (.pointer (some ⟨(γ1 0), 0, none⟩)) :: (.pointer (some ⟨(γ1 1), 0, none⟩)) :: (.pointer (some ⟨(γ1 2), 0, none⟩)) :: (.bool false) :: undef :: (sv [.n 6 x0, .n 6 x1, .n 6 y0, .n 6 y1, .b i]) :: (.bool false) :: (.bool true) :: undef :: undef :: undef :: undef :: undef :: undef :: undef :: undef :: undef :: undef :: undef :: undef :: undef :: undef :: undef :: undef :: undef :: undef :: undef :: undef :: undef :: undef :: undef :: undef :: undef :: undef :: undef :: undef :: undef :: undef :: undef :: undef :: undef :: undef :: undef :: undef :: undef :: undef :: undef :: undef :: undef :: undef :: undef :: undef :: undef :: undef :: undef :: undef :: undef :: undef :: undef :: undef :: undef :: undef :: undef :: undef :: undef :: undef :: undef :: undef :: undef :: undef :: undef :: []), []⟩) 0 (fun _ => 0) (fun _ => 0) (fun _ => 0) (fun _ => []) (fun _ => []) [8, 9, 10] (.inr ⟨rfl, by kernel_rfl⟩) (by kernel_rfl) rfl rfl rfl ?_ ?_)
  · refine GSteps.cons (gm_val (v := sv [.n 6 x0, .n 6 x1, .n 6 y0, .n 6 y1, .b i]) rfl (fun _ => rfl) (fun _ => rfl) (fun γ w h => ex_loads 0 5 (m := [.n 6 x0, .n 6 x1, .n 6 y0, .n 6 y1, .b i]) flG2 rfl rfl (A2.keep h.out) rfl rfl) rfl) ?_
    refine GSteps.cons (gm_call (v := .bool false) rfl (fun _ => rfl) (fun _ => rfl) (fun γ w => ex_call (vs := [sv [.n 6 x0, .n 6 x1, .n 6 y0, .n 6 y1, .b i]]) rfl Tryz.call9 rfl) (fun w h => r9Right_no hx0 hx1 hy0 hy1 h0 _) rfl) ?_
    refine GSteps.cons (gm_val (v := .bool true) rfl (fun _ => rfl) (fun _ => rfl) (fun γ w h => ex_not (r := false) rfl) rfl) ?_
    exact GSteps.nil
  intro _ w6 hb6 _ _
  refine th_r ?_
  have A7 := A2.keep hb6.out
  have A8 := A3.keep hb6.out
  have A9 := A4.keep hb6.out
  have HB10 := below_then HB5 hb6.out
  refine wp_cond_true rfl ?_
  refine wp_seq (region_m (F := fun _ => ⟨List.toArray ((sv [.n 6 x0, .n 6 x1, .n 6 y0, .n 6 y1, .b i]) :: (nv 4 [k]) :: (nv 4 [l]) :: (.pointer (some ⟨(γ1 0), 0, none⟩)) :: (.pointer (some ⟨(γ1 1), 0, none⟩)) :: (.pointer (some ⟨(γ1 2), 0, none⟩)) :: (.bool true) :: undef :: (sv [.n 6 x0, .n 6 x1, .n 6 y0, .n 6 y1, .b i]) :: (.bool false) :: (.bool true) :: (.bool true) :: (.bool true) :: (sv [.n 6 x0, .n 6 x1, .n 6 y0, .n 6 y1, .b i]) :: (.bool false) :: (.bool true) :: (.bool true) :: undef :: undef :: undef :: undef :: undef :: undef :: undef :: undef :: undef :: undef :: undef :: undef :: undef :: undef :: undef :: undef :: undef :: undef :: undef :: undef :: undef :: undef :: undef :: undef :: undef :: undef :: undef :: undef :: undef :: undef :: undef :: undef :: undef :: undef :: undef :: undef :: undef :: undef :: undef :: undef :: undef :: undef :: undef :: undef :: undef :: undef :: undef :: undef :: undef :: undef :: undef :: undef :: undef :: undef :: undef :: undef :: undef :: []), []⟩) 0 (fun _ => 0) (fun _ => 0) (fun _ => 0) (fun _ => []) (fun _ => []) [11, 12, 13, 14, 15, 16, 6] (.inr ⟨rfl, by kernel_rfl⟩) (by kernel_rfl) rfl rfl rfl ?_ ?_)
  · refine GSteps.cons (gm_call (v := .bool true) rfl (fun _ => rfl) (fun _ => rfl) (fun γ w => ex_call (vs := []) rfl Tryz.call11 rfl) (fun w h => twoalive_v _) rfl) ?_
    refine GSteps.cons (gm_val (v := .bool true) rfl (fun _ => rfl) (fun _ => rfl) (fun γ w h => ex_move _) rfl) ?_
    refine GSteps.cons (gm_val (v := sv [.n 6 x0, .n 6 x1, .n 6 y0, .n 6 y1, .b i]) rfl (fun _ => rfl) (fun _ => rfl) (fun γ w h => ex_loads 0 5 (m := [.n 6 x0, .n 6 x1, .n 6 y0, .n 6 y1, .b i]) flG2 rfl rfl (A7.keep h.out) rfl rfl) rfl) ?_
    refine GSteps.cons (gm_call (v := .bool false) rfl (fun _ => rfl) (fun _ => rfl) (fun γ w => ex_call (vs := [sv [.n 6 x0, .n 6 x1, .n 6 y0, .n 6 y1, .b i]]) rfl Tryz.call17 rfl) (fun w h => twoGroup_n x0 x1 y0 y1 i hx0 hx1 hy0 hy1 h0 _) rfl) ?_
    refine GSteps.cons (gm_val (v := .bool true) rfl (fun _ => rfl) (fun _ => rfl) (fun γ w h => ex_not (r := false) rfl) rfl) ?_
    refine GSteps.cons (gm_val (v := .bool true) rfl (fun _ => rfl) (fun _ => rfl) (fun γ w h => ex_pick (r := true) rfl) rfl) ?_
    refine GSteps.cons (gm_val (v := .bool true) rfl (fun _ => rfl) (fun _ => rfl) (fun γ w h => ex_assign _) rfl) ?_
    exact GSteps.nil
  intro _ w11 hb11 _ _
  refine th_r ?_
  have A12 := A7.keep hb11.out
  have A13 := A8.keep hb11.out
  have A14 := A9.keep hb11.out
  have HB15 := below_then HB10 hb11.out
  exact wp_ret (th_ret (bodyPost_ret (ret1 Tryz.results5 (res_tmp rfl)) rfl ⟨rfl, HB15⟩))

set_option maxRecDepth 20000 in
set_option maxHeartbeats 4000000 in
theorem twoOrder_0 (P T : E2) (hT : EP.times C2 rN P = T) (hT0 : T ≠ Z2) (k l : Nat) (w : World) :
    Calls Tryz.prog 5 #[sv [.n 6 (bx0 P.pt), .n 6 (bx1 P.pt), .n 6 (by0 P.pt), .n 6 (by1 P.pt), .b (bi P.pt)], nv 4 [k], nv 4 [l]] w (Is (.bool true) w) := by
  go_enter Tryz.func5, Tryz.ntmps5
  refine wp_seq (region_m (F := fun γ => ⟨List.toArray ((sv [.n 6 (bx0 P.pt), .n 6 (bx1 P.pt), .n 6 (by0 P.pt), .n 6 (by1 P.pt), .b (bi P.pt)]) :: (nv 4 [k]) :: (nv 4 [l]) :: (.pointer (some ⟨γ 0, 0, none⟩)) :: (.pointer (some ⟨γ 1, 0, none⟩)) :: (.pointer (some ⟨γ 2, 0, none⟩)) :: (.bool false) :: undef :: undef :: undef :: undef :: undef :: undef :: undef :: undef :: undef :: undef :: undef :: undef :: undef :: undef :: undef :: undef :: undef :: undef :: undef :: undef :: undef :: undef :: undef :: undef :: undef :: undef :: undef :: undef :: undef :: undef :: undef :: undef :: undef :: undef :: undef :: undef :: undef :: undef :: undef :: undef :: undef :: undef :: undef :: undef :: undef :: undef :: undef :: undef :: undef :: undef :: undef :: undef :: undef :: undef :: undef :: undef :: undef :: undef :: undef :: undef :: undef :: undef :: undef :: undef :: undef :: undef :: undef :: []), []⟩) 3 (fun j_ => match j_ with | 0 => 28 | 1 => 41 | _ => 41) (fun j_ => match j_ with | 0 => 0 | 1 => 1 | _ => 2) (fun j_ => match j_ with | 0 => 0 | 1 => 1 | _ => 2) (fun j_ => match j_ with | 0 => segs [.n 6 (bx0 P.pt), .n 6 (bx1 P.pt), .n 6 (by0 P.pt), .n 6 (by1 P.pt), .b (bi P.pt)] | 1 => segs [.n 4 k] | _ => segs [.n 4 l]) (fun j_ => match j_ with | 0 => segs [.n 6 (bx0 P.pt), .n 6 (bx1 P.pt), .n 6 (by0 P.pt), .n 6 (by1 P.pt), .b (bi P.pt)] | 1 => segs [.n 4 k] | _ => segs [.n 4 l]) [3, 4, 5, 6] (.inr ⟨rfl, by kernel_rfl⟩) (by kernel_rfl) rfl rfl rfl ?_ ?_)
  · refine GSteps.cons (gm_box 0 rfl (fun _ => rfl) (fun _ _ => rfl) (fun γ w h => ex_boxs (l := [.n 6 (bx0 P.pt), .n 6 (bx1 P.pt), .n 6 (by0 P.pt), .n 6 (by1 P.pt), .b (bi P.pt)]) rfl) rfl rfl rfl) ?_
    refine GSteps.cons (gm_box 1 rfl (fun _ => rfl) (fun _ _ => rfl) (fun γ w h => ex_boxsn (K := 4) (l := [k]) rfl) rfl rfl rfl) ?_
    refine GSteps.cons (gm_box 2 rfl (fun _ => rfl) (fun _ _ => rfl) (fun γ w h => ex_boxsn (K := 4) (l := [l]) rfl) rfl rfl rfl) ?_
    refine GSteps.cons (gm_val (v := .bool false) rfl (fun _ => rfl) (fun _ => rfl) (fun γ w h => ex_assign _) rfl) ?_
    exact GSteps.nil
  intro γ1 w1 hb1 hB1 hn1
  refine th_r ?_
  have A2 : SB 28 w1 (γ1 0) [.n 6 (bx0 P.pt), .n 6 (bx1 P.pt), .n 6 (by0 P.pt), .n 6 (by1 P.pt), .b (bi P.pt)] := (hB1 0 (by decide)).2
  have le2 := (hB1 0 (by decide)).1
  have A3 : SB 41 w1 (γ1 1) [.n 4 k] := (hB1 1 (by decide)).2
  have le3 := (hB1 1 (by decide)).1
  have A4 : SB 41 w1 (γ1 2) [.n 4 l] := (hB1 2 (by decide)).2
  have le4 := (hB1 2 (by decide)).1
  have HB5 := below_then (Below.refl w.heap.size w) hb1.out
  refine wp_seq ?_
  refine wp_seq (region_m (F := fun _ => ⟨List.toArray ((sv [.n 6 (bx0 P.pt), .n 6 (bx1 P.pt), .n 6 (by0 P.pt), .n 6 (by1 P.pt), .b (bi P.pt)]) :: (nv 4 [k]) :: (nv 4 [l]) :: (.pointer (some ⟨(γ1 0), 0, none⟩)) :: (.pointer (some ⟨(γ1 1), 0, none⟩)) :: (.pointer (some ⟨(γ1 2), 0, none⟩)) :: (.bool false) :: undef :: (sv [.n 6 (bx0 P.pt), .n 6 (bx1 P.pt), .n 6 (by0 P.pt), .n 6 (by1 P.pt), .b (bi P.pt)]) :: (.bool true) :: (.bool false) :: undef :: undef :: undef :: undef :: undef :: undef :: undef :: undef :: undef :: undef :: undef :: undef :: undef :: undef :: undef :: undef :: undef :: undef :: undef :: undef :: undef :: undef :: undef :: undef :: undef :: undef :: undef :: undef :: undef :: undef :: undef :: undef :: undef :: undef :: undef :: undef :: undef :: undef :: undef :: undef :: undef :: undef :: undef :: undef :: undef :: undef :: undef :: undef :: undef :: undef :: undef :: undef :: undef :: undef :: undef :: undef :: undef :: undef :: undef :: undef :: undef :: undef :: undef :: []), []⟩) 0 (fun _ => 0) (fun _ => 0) (fun _ => 0) (fun _ => []) (fun _ => []) [8, 9, 10] (.inr ⟨rfl, by kernel_rfl⟩) (by kernel_rfl) rfl rfl rfl ?_ ?_)
  · refine GSteps.cons (gm_val (v := sv [.n 6 (bx0 P.pt), .n 6 (bx1 P.pt), .n 6 (by0 P.pt), .n 6 (by1 P.pt), .b (bi P.pt)]) rfl (fun _ => rfl) (fun _ => rfl) (fun γ w h => ex_loads 0 5 (m := [.n 6 (bx0 P.pt), .n 6 (bx1 P.pt), .n 6 (by0 P.pt), .n 6 (by1 P.pt), .b (bi P.pt)]) flG2 rfl rfl (A2.keep h.out) rfl rfl) rfl) ?_
    refine GSteps.cons (gm_call (v := .bool true) rfl (fun _ => rfl) (fun _ => rfl) (fun γ w => ex_call (vs := [sv [.n 6 (bx0 P.pt), .n 6 (bx1 P.pt), .n 6 (by0 P.pt), .n 6 (by1 P.pt), .b (bi P.pt)]]) rfl Tryz.call9 rfl) (fun w h => r9Right_p P _) rfl) ?_
    refine GSteps.cons (gm_val (v := .bool false) rfl (fun _ => rfl) (fun _ => rfl) (fun γ w h => ex_not (r := true) rfl) rfl) ?_
    exact GSteps.nil
  intro _ w6 hb6 _ _
  refine th_r ?_
  have A7 := A2.keep hb6.out
  have A8 := A3.keep hb6.out
  have A9 := A4.keep hb6.out
  have HB10 := below_then HB5 hb6.out
  refine wp_cond_false rfl ?_
  refine wp_skip ?_
  refine th_r ?_
  refine wp_seq (region_m (F := fun _ => ⟨List.toArray ((sv [.n 6 (bx0 P.pt), .n 6 (bx1 P.pt), .n 6 (by0 P.pt), .n 6 (by1 P.pt), .b (bi P.pt)]) :: (nv 4 [k]) :: (nv 4 [l]) :: (.pointer (some ⟨(γ1 0), 0, none⟩)) :: (.pointer (some ⟨(γ1 1), 0, none⟩)) :: (.pointer (some ⟨(γ1 2), 0, none⟩)) :: (.bool false) :: (.bool false) :: (sv [.n 6 (bx0 P.pt), .n 6 (bx1 P.pt), .n 6 (by0 P.pt), .n 6 (by1 P.pt), .b (bi P.pt)]) :: (.bool true) :: (.bool false) :: undef :: undef :: undef :: undef :: undef :: undef :: (sv [.n 6 (bx0 P.pt), .n 6 (bx1 P.pt), .n 6 (by0 P.pt), .n 6 (by1 P.pt), .b (bi P.pt)]) :: (nv 4 [rN]) :: (sv [.n 6 (bx0 T.pt), .n 6 (bx1 T.pt), .n 6 (by0 T.pt), .n 6 (by1 T.pt), .b (bi T.pt)]) :: (sv [.n 6 (bx0 Z2.pt), .n 6 (bx1 Z2.pt), .n 6 (by0 Z2.pt), .n 6 (by1 Z2.pt), .b (bi Z2.pt)]) :: (.bool false) :: undef :: undef :: undef :: undef :: undef :: undef :: undef :: undef :: undef :: undef :: undef :: undef :: undef :: undef :: undef :: undef :: undef :: undef :: undef :: undef :: undef :: undef :: undef :: undef :: undef :: undef :: undef :: undef :: undef :: undef :: undef :: undef :: undef :: undef :: undef :: undef :: undef :: undef :: undef :: undef :: undef :: undef :: undef :: undef :: undef :: undef :: undef :: undef :: undef :: undef :: undef :: undef :: []), []⟩) 0 (fun _ => 0) (fun _ => 0) (fun _ => 0) (fun _ => []) (fun _ => []) [17, 18, 19, 20, 21, 7] (.inl ⟨rfl, by kernel_rfl⟩) (by kernel_rfl) rfl rfl rfl ?_ ?_)
  · refine GSteps.cons (gm_val (v := sv [.n 6 (bx0 P.pt), .n 6 (bx1 P.pt), .n 6 (by0 P.pt), .n 6 (by1 P.pt), .b (bi P.pt)]) rfl (fun _ => rfl) (fun _ => rfl) (fun γ w h => ex_loads 0 5 (m := [.n 6 (bx0 P.pt), .n 6 (bx1 P.pt), .n 6 (by0 P.pt), .n 6 (by1 P.pt), .b (bi P.pt)]) flG2 rfl rfl (A7.keep h.out) rfl rfl) rfl) ?_
    refine GSteps.cons (gm_call (v := nv 4 [rN]) rfl (fun _ => rfl) (fun _ => rfl) (fun γ w => ex_call (vs := []) rfl Tryz.call18 rfl) (fun w h => r3R_n2 _) rfl) ?_
    refine GSteps.cons (gm_call (v := sv [.n 6 (bx0 T.pt), .n 6 (bx1 T.pt), .n 6 (by0 T.pt), .n 6 (by1 T.pt), .b (bi T.pt)]) rfl (fun _ => rfl) (fun _ => rfl) (fun γ w => ex_call (vs := [sv [.n 6 (bx0 P.pt), .n 6 (bx1 P.pt), .n 6 (by0 P.pt), .n 6 (by1 P.pt), .b (bi P.pt)], nv 4 [rN]]) rfl Tryz.call16 rfl) (fun w h => twomul_v P T rN rN_B2 hT _) rfl) ?_
    refine GSteps.cons (gm_call (v := sv [.n 6 (bx0 Z2.pt), .n 6 (bx1 Z2.pt), .n 6 (by0 Z2.pt), .n 6 (by1 Z2.pt), .b (bi Z2.pt)]) rfl (fun _ => rfl) (fun _ => rfl) (fun γ w => ex_call (vs := []) rfl Tryz.call14 rfl) (fun w h => twoZero_p _) rfl) ?_
    refine GSteps.cons (gm_val (v := .bool false) rfl (fun _ => rfl) (fun _ => rfl) (fun γ w h => ex_eqs gdG2 eqG2 rfl rfl rfl (shG2_of (bx0_B T.pt) (bx1_B T.pt) (by0_B T.pt) (by1_B T.pt)) (shG2_of (bx0_B Z2.pt) (bx1_B Z2.pt) (by0_B Z2.pt) (by1_B Z2.pt)) false ⟨fun e => Bool.noConfusion e, fun e => absurd (EP.ext' (gs_inj2 e)) hT0⟩) rfl) ?_
    refine GSteps.cons (gm_val (v := .bool false) rfl (fun _ => rfl) (fun _ => rfl) (fun γ w h => ex_assign _) rfl) ?_
    exact GSteps.nil
  intro _ w11 hb11 _ _
  refine th_r ?_
  have A12 := A7.keep hb11.out
  have A13 := A8.keep hb11.out
  have A14 := A9.keep hb11.out
  have HB15 := below_then HB10 hb11.out
  refine wp_seq ?_
  refine wp_seq (region_m (F := fun _ => ⟨List.toArray ((sv [.n 6 (bx0 P.pt), .n 6 (bx1 P.pt), .n 6 (by0 P.pt), .n 6 (by1 P.pt), .b (bi P.pt)]) :: (nv 4 [k]) :: (nv 4 [l]) :: (.pointer (some ⟨(γ1 0), 0, none⟩)) :: (.pointer (some ⟨(γ1 1), 0, none⟩)) :: (.pointer (some ⟨(γ1 2), 0, none⟩)) :: (.bool false) :: (.bool false) :: (sv [.n 6 (bx0 P.pt), .n 6 (bx1 P.pt), .n 6 (by0 P.pt), .n 6 (by1 P.pt), .b (bi P.pt)]) :: (.bool true) :: (.bool false) :: undef :: undef :: undef :: undef :: undef :: undef :: (sv [.n 6 (bx0 P.pt), .n 6 (bx1 P.pt), .n 6 (by0 P.pt), .n 6 (by1 P.pt), .b (bi P.pt)]) :: (nv 4 [rN]) :: (sv [.n 6 (bx0 T.pt), .n 6 (bx1 T.pt), .n 6 (by0 T.pt), .n 6 (by1 T.pt), .b (bi T.pt)]) :: (sv [.n 6 (bx0 Z2.pt), .n 6 (bx1 Z2.pt), .n 6 (by0 Z2.pt), .n 6 (by1 Z2.pt), .b (bi Z2.pt)]) :: (.bool false) :: (.bool false) :: (sv [.n 6 (bx0 P.pt), .n 6 (bx1 P.pt), .n 6 (by0 P.pt), .n 6 (by1 P.pt), .b (bi P.pt)]) :: (.bool false) :: (.bool false) :: (.bool false) :: (.bool true) :: (.bool false) :: (.bool false) :: undef :: undef :: undef :: undef :: undef :: undef :: undef :: undef :: undef :: undef :: undef :: undef :: undef :: undef :: undef :: undef :: undef :: undef :: undef :: undef :: undef :: undef :: undef :: undef :: undef :: undef :: undef :: undef :: undef :: undef :: undef :: undef :: undef :: undef :: undef :: undef :: undef :: undef :: undef :: undef :: undef :: undef :: undef :: undef :: []), []⟩) 0 (fun _ => 0) (fun _ => 0) (fun _ => 0) (fun _ => []) (fun _ => []) [22, 23, 24, 25, 26, 27, 28, 29] (.inr ⟨rfl, by kernel_rfl⟩) (by kernel_rfl) rfl rfl rfl ?_ ?_)
  · refine GSteps.cons (gm_val (v := .bool false) rfl (fun _ => rfl) (fun _ => rfl) (fun γ w h => ex_move _) rfl) ?_
    refine GSteps.cons (gm_val (v := sv [.n 6 (bx0 P.pt), .n 6 (bx1 P.pt), .n 6 (by0 P.pt), .n 6 (by1 P.pt), .b (bi P.pt)]) rfl (fun _ => rfl) (fun _ => rfl) (fun γ w h => ex_loads 0 5 (m := [.n 6 (bx0 P.pt), .n 6 (bx1 P.pt), .n 6 (by0 P.pt), .n 6 (by1 P.pt), .b (bi P.pt)]) flG2 rfl rfl (A12.keep h.out) rfl rfl) rfl) ?_
    refine GSteps.cons (gm_call (v := .bool false) rfl (fun _ => rfl) (fun _ => rfl) (fun γ w => ex_call (vs := [sv [.n 6 (bx0 P.pt), .n 6 (bx1 P.pt), .n 6 (by0 P.pt), .n 6 (by1 P.pt), .b (bi P.pt)]]) rfl Tryz.call17 rfl) (fun w h => twoGroup_q P false ⟨fun e => Bool.noConfusion e, fun e => absurd (hT.symm.trans e) hT0⟩ _) rfl) ?_
    refine GSteps.cons (gm_val (v := .bool false) rfl (fun _ => rfl) (fun _ => rfl) (fun γ w h => ex_neqb (a := false) (b := false) Tryz.underlying4 rfl rfl _ rfl) rfl) ?_
    refine GSteps.cons (gm_val (v := .bool false) rfl (fun _ => rfl) (fun _ => rfl) (fun γ w h => ex_move _) rfl) ?_
    refine GSteps.cons (gm_call (v := .bool true) rfl (fun _ => rfl) (fun _ => rfl) (fun γ w => ex_call (vs := []) rfl Tryz.call11 rfl) (fun w h => twoalive_v _) rfl) ?_
    refine GSteps.cons (gm_val (v := .bool false) rfl (fun _ => rfl) (fun _ => rfl) (fun γ w h => ex_not (r := true) rfl) rfl) ?_
    refine GSteps.cons (gm_val (v := .bool false) rfl (fun _ => rfl) (fun _ => rfl) (fun γ w h => ex_pick (r := false) rfl) rfl) ?_
    exact GSteps.nil
  intro _ w16 hb16 _ _
  refine th_r ?_
  have A17 := A12.keep hb16.out
  have A18 := A13.keep hb16.out
  have A19 := A14.keep hb16.out
  have HB20 := below_then HB15 hb16.out
  refine wp_cond_false rfl ?_
  refine wp_skip ?_
  refine th_r ?_
  refine wp_seq ?_
  refine wp_seq (region_m (F := fun _ => ⟨List.toArray ((sv [.n 6 (bx0 P.pt), .n 6 (bx1 P.pt), .n 6 (by0 P.pt), .n 6 (by1 P.pt), .b (bi P.pt)]) :: (nv 4 [k]) :: (nv 4 [l]) :: (.pointer (some ⟨(γ1 0), 0, none⟩)) :: (.pointer (some ⟨(γ1 1), 0, none⟩)) :: (.pointer (some ⟨(γ1 2), 0, none⟩)) :: (.bool false) :: (.bool false) :: (sv [.n 6 (bx0 P.pt), .n 6 (bx1 P.pt), .n 6 (by0 P.pt), .n 6 (by1 P.pt), .b (bi P.pt)]) :: (.bool true) :: (.bool false) :: undef :: undef :: undef :: undef :: undef :: undef :: (sv [.n 6 (bx0 P.pt), .n 6 (bx1 P.pt), .n 6 (by0 P.pt), .n 6 (by1 P.pt), .b (bi P.pt)]) :: (nv 4 [rN]) :: (sv [.n 6 (bx0 T.pt), .n 6 (bx1 T.pt), .n 6 (by0 T.pt), .n 6 (by1 T.pt), .b (bi T.pt)]) :: (sv [.n 6 (bx0 Z2.pt), .n 6 (bx1 Z2.pt), .n 6 (by0 Z2.pt), .n 6 (by1 Z2.pt), .b (bi Z2.pt)]) :: (.bool false) :: (.bool false) :: (sv [.n 6 (bx0 P.pt), .n 6 (bx1 P.pt), .n 6 (by0 P.pt), .n 6 (by1 P.pt), .b (bi P.pt)]) :: (.bool false) :: (.bool false) :: (.bool false) :: (.bool true) :: (.bool false) :: (.bool false) :: (.bool false) :: (.bool true) :: undef :: undef :: undef :: undef :: undef :: undef :: undef :: undef :: undef :: undef :: undef :: undef :: undef :: undef :: undef :: undef :: undef :: undef :: undef :: undef :: undef :: undef :: undef :: undef :: undef :: undef :: undef :: undef :: undef :: undef :: undef :: undef :: undef :: undef :: undef :: undef :: undef :: undef :: undef :: undef :: undef :: undef :: []), []⟩) 0 (fun _ => 0) (fun _ => 0) (fun _ => 0) (fun _ => []) (fun _ => []) [30, 31] (.inr ⟨rfl, by kernel_rfl⟩) (by kernel_rfl) rfl rfl rfl ?_ ?_)
  · refine GSteps.cons (gm_val (v := .bool false) rfl (fun _ => rfl) (fun _ => rfl) (fun γ w h => ex_move _) rfl) ?_
    refine GSteps.cons (gm_val (v := .bool true) rfl (fun _ => rfl) (fun _ => rfl) (fun γ w h => ex_not (r := false) rfl) rfl) ?_
    exact GSteps.nil
  intro _ w21 hb21 _ _
  refine th_r ?_
  have A22 := A17.keep hb21.out
  have A23 := A18.keep hb21.out
  have A24 := A19.keep hb21.out
  have HB25 := below_then HB20 hb21.out
  refine wp_cond_true rfl ?_
  refine wp_seq (region_m (F := fun _ => ⟨List.toArray ((sv [.n 6 (bx0 P.pt), .n 6 (bx1 P.pt), .n 6 (by0 P.pt), .n 6 (by1 P.pt), .b (bi P.pt)]) :: (nv 4 [k]) :: (nv 4 [l]) :: (.pointer (some ⟨(γ1 0), 0, none⟩)) :: (.pointer (some ⟨(γ1 1), 0, none⟩)) :: (.pointer (some ⟨(γ1 2), 0, none⟩)) :: (.bool true) :: (.bool false) :: (sv [.n 6 (bx0 P.pt), .n 6 (bx1 P.pt), .n 6 (by0 P.pt), .n 6 (by1 P.pt), .b (bi P.pt)]) :: (.bool true) :: (.bool false) :: undef :: undef :: undef :: undef :: undef :: undef :: (sv [.n 6 (bx0 P.pt), .n 6 (bx1 P.pt), .n 6 (by0 P.pt), .n 6 (by1 P.pt), .b (bi P.pt)]) :: (nv 4 [rN]) :: (sv [.n 6 (bx0 T.pt), .n 6 (bx1 T.pt), .n 6 (by0 T.pt), .n 6 (by1 T.pt), .b (bi T.pt)]) :: (sv [.n 6 (bx0 Z2.pt), .n 6 (bx1 Z2.pt), .n 6 (by0 Z2.pt), .n 6 (by1 Z2.pt), .b (bi Z2.pt)]) :: (.bool false) :: (.bool false) :: (sv [.n 6 (bx0 P.pt), .n 6 (bx1 P.pt), .n 6 (by0 P.pt), .n 6 (by1 P.pt), .b (bi P.pt)]) :: (.bool false) :: (.bool false) :: (.bool false) :: (.bool true) :: (.bool false) :: (.bool false) :: (.bool false) :: (.bool true) :: undef :: undef :: undef :: undef :: undef :: undef :: undef :: undef :: undef :: undef :: undef :: undef :: undef :: undef :: undef :: undef :: undef :: undef :: undef :: undef :: undef :: undef :: undef :: undef :: undef :: undef :: undef :: undef :: undef :: undef :: undef :: undef :: undef :: undef :: undef :: undef :: undef :: undef :: undef :: undef :: undef :: undef :: []), []⟩) 0 (fun _ => 0) (fun _ => 0) (fun _ => 0) (fun _ => []) (fun _ => []) [6] (.inr ⟨rfl, by kernel_rfl⟩) (by kernel_rfl) rfl rfl rfl ?_ ?_)
  · refine GSteps.cons (gm_val (v := .bool true) rfl (fun _ => rfl) (fun _ => rfl) (fun γ w h => ex_assign _) rfl) ?_
    exact GSteps.nil
  intro _ w26 hb26 _ _
  refine th_r ?_
  have A27 := A22.keep hb26.out
  have A28 := A23.keep hb26.out
  have A29 := A24.keep hb26.out
  have HB30 := below_then HB25 hb26.out
  exact wp_ret (th_ret (bodyPost_ret (ret1 Tryz.results5 (res_tmp rfl)) rfl ⟨rfl, HB30⟩))

set_option maxRecDepth 20000 in
set_option maxHeartbeats 4000000 in
theorem twoOrder_1 (P : E2) (hT : EP.times C2 rN P = Z2) (k l : Nat) (hk : k < frB) (hl : l < frB) (w : World) :
    Calls Tryz.prog 5 #[sv [.n 6 (bx0 P.pt), .n 6 (bx1 P.pt), .n 6 (by0 P.pt), .n 6 (by1 P.pt), .b (bi P.pt)], nv 4 [k], nv 4 [l]] w (Is (.bool true) w) := by
  obtain ⟨c, hc⟩ : ∃ c, c = k % rN := ⟨_, rfl⟩
  obtain ⟨d, hd⟩ : ∃ d, d = (k + l) % rN := ⟨_, rfl⟩
  obtain ⟨e, he⟩ : ∃ e, e = k * l % rN := ⟨_, rfl⟩
  obtain ⟨A, hA⟩ : ∃ q_ : E2, q_ = EP.times C2 k P := ⟨_, rfl⟩
  obtain ⟨B, hB⟩ : ∃ q_ : E2, q_ = EP.times C2 l P := ⟨_, rfl⟩
  obtain ⟨G, hG⟩ : ∃ q_ : E2, q_ = EP.times C2 (k + l) P := ⟨_, rfl⟩
  obtain ⟨H, hH⟩ : ∃ q_ : E2, q_ = EP.times C2 (k * l) P := ⟨_, rfl⟩
  go_enter Tryz.func5, Tryz.ntmps5
  refine wp_seq (region_m (F := fun γ => ⟨List.toArray ((sv [.n 6 (bx0 P.pt), .n 6 (bx1 P.pt), .n 6 (by0 P.pt), .n 6 (by1 P.pt), .b (bi P.pt)]) :: (nv 4 [k]) :: (nv 4 [l]) :: (.pointer (some ⟨γ 0, 0, none⟩)) :: (.pointer (some ⟨γ 1, 0, none⟩)) :: (.pointer (some ⟨γ 2, 0, none⟩)) :: (.bool false) :: undef :: undef :: undef :: undef :: undef :: undef :: undef :: undef :: undef :: undef :: undef :: undef :: undef :: undef :: undef :: undef :: undef :: undef :: undef :: undef :: undef :: undef :: undef :: undef :: undef :: undef :: undef :: undef :: undef :: undef :: undef :: undef :: undef :: undef :: undef :: undef :: undef :: undef :: undef :: undef :: undef :: undef :: undef :: undef :: undef :: undef :: undef :: undef :: undef :: undef :: undef :: undef :: undef :: undef :: undef :: undef :: undef :: undef :: undef :: undef :: undef :: undef :: undef :: undef :: undef :: undef :: undef :: []), []⟩) 3 (fun j_ => match j_ with | 0 => 28 | 1 => 41 | _ => 41) (fun j_ => match j_ with | 0 => 0 | 1 => 1 | _ => 2) (fun j_ => match j_ with | 0 => 0 | 1 => 1 | _ => 2) (fun j_ => match j_ with | 0 => segs [.n 6 (bx0 P.pt), .n 6 (bx1 P.pt), .n 6 (by0 P.pt), .n 6 (by1 P.pt), .b (bi P.pt)] | 1 => segs [.n 4 k] | _ => segs [.n 4 l]) (fun j_ => match j_ with | 0 => segs [.n 6 (bx0 P.pt), .n 6 (bx1 P.pt), .n 6 (by0 P.pt), .n 6 (by1 P.pt), .b (bi P.pt)] | 1 => segs [.n 4 k] | _ => segs [.n 4 l]) [3, 4, 5, 6] (.inr ⟨rfl, by kernel_rfl⟩) (by kernel_rfl) rfl rfl rfl ?_ ?_)
  · refine GSteps.cons (gm_box 0 rfl (fun _ => rfl) (fun _ _ => rfl) (fun γ w h => ex_boxs (l := [.n 6 (bx0 P.pt), .n 6 (bx1 P.pt), .n 6 (by0 P.pt), .n 6 (by1 P.pt), .b (bi P.pt)]) rfl) rfl rfl rfl) ?_
    refine GSteps.cons (gm_box 1 rfl (fun _ => rfl) (fun _ _ => rfl) (fun γ w h => ex_boxsn (K := 4) (l := [k]) rfl) rfl rfl rfl) ?_
    refine GSteps.cons (gm_box 2 rfl (fun _ => rfl) (fun _ _ => rfl) (fun γ w h => ex_boxsn (K := 4) (l := [l]) rfl) rfl rfl rfl) ?_
    refine GSteps.cons (gm_val (v := .bool false) rfl (fun _ => rfl) (fun _ => rfl) (fun γ w h => ex_assign _) rfl) ?_
    exact GSteps.nil
  intro γ1 w1 hb1 hB1 hn1
  refine th_r ?_
  have A2 : SB 28 w1 (γ1 0) [.n 6 (bx0 P.pt), .n 6 (bx1 P.pt), .n 6 (by0 P.pt), .n 6 (by1 P.pt), .b (bi P.pt)] := (hB1 0 (by decide)).2
  have le2 := (hB1 0 (by decide)).1
  have A3 : SB 41 w1 (γ1 1) [.n 4 k] := (hB1 1 (by decide)).2
  have le3 := (hB1 1 (by decide)).1
  have A4 : SB 41 w1 (γ1 2) [.n 4 l] := (hB1 2 (by decide)).2
  have le4 := (hB1 2 (by decide)).1
  have HB5 := below_then (Below.refl w.heap.size w) hb1.out
  refine wp_seq ?_
  refine wp_seq (region_m (F := fun _ => ⟨List.toArray ((sv [.n 6 (bx0 P.pt), .n 6 (bx1 P.pt), .n 6 (by0 P.pt), .n 6 (by1 P.pt), .b (bi P.pt)]) :: (nv 4 [k]) :: (nv 4 [l]) :: (.pointer (some ⟨(γ1 0), 0, none⟩)) :: (.pointer (some ⟨(γ1 1), 0, none⟩)) :: (.pointer (some ⟨(γ1 2), 0, none⟩)) :: (.bool false) :: undef :: (sv [.n 6 (bx0 P.pt), .n 6 (bx1 P.pt), .n 6 (by0 P.pt), .n 6 (by1 P.pt), .b (bi P.pt)]) :: (.bool true) :: (.bool false) :: undef :: undef :: undef :: undef :: undef :: undef :: undef :: undef :: undef :: undef :: undef :: undef :: undef :: undef :: undef :: undef :: undef :: undef :: undef :: undef :: undef :: undef :: undef :: undef :: undef :: undef :: undef :: undef :: undef :: undef :: undef :: undef :: undef :: undef :: undef :: undef :: undef :: undef :: undef :: undef :: undef :: undef :: undef :: undef :: undef :: undef :: undef :: undef :: undef :: undef :: undef :: undef :: undef :: undef :: undef :: undef :: undef :: undef :: undef :: undef :: undef :: undef :: undef :: []), []⟩) 0 (fun _ => 0) (fun _ => 0) (fun _ => 0) (fun _ => []) (fun _ => []) [8, 9, 10] (.inr ⟨rfl, by kernel_rfl⟩) (by kernel_rfl) rfl rfl rfl ?_ ?_)
  · refine GSteps.cons (gm_val (v := sv [.n 6 (bx0 P.pt), .n 6 (bx1 P.pt), .n 6 (by0 P.pt), .n 6 (by1 P.pt), .b (bi P.pt)]) rfl (fun _ => rfl) (fun _ => rfl) (fun γ w h => ex_loads 0 5 (m := [.n 6 (bx0 P.pt), .n 6 (bx1 P.pt), .n 6 (by0 P.pt), .n 6 (by1 P.pt), .b (bi P.pt)]) flG2 rfl rfl (A2.keep h.out) rfl rfl) rfl) ?_
    refine GSteps.cons (gm_call (v := .bool true) rfl (fun _ => rfl) (fun _ => rfl) (fun γ w => ex_call (vs := [sv [.n 6 (bx0 P.pt), .n 6 (bx1 P.pt), .n 6 (by0 P.pt), .n 6 (by1 P.pt), .b (bi P.pt)]]) rfl Tryz.call9 rfl) (fun w h => r9Right_p P _) rfl) ?_
    refine GSteps.cons (gm_val (v := .bool false) rfl (fun _ => rfl) (fun _ => rfl) (fun γ w h => ex_not (r := true) rfl) rfl) ?_
    exact GSteps.nil
  intro _ w6 hb6 _ _
  refine th_r ?_
  have A7 := A2.keep hb6.out
  have A8 := A3.keep hb6.out
  have A9 := A4.keep hb6.out
  have HB10 := below_then HB5 hb6.out
  refine wp_cond_false rfl ?_
  refine wp_skip ?_
  refine th_r ?_
  refine wp_seq (region_m (F := fun _ => ⟨List.toArray ((sv [.n 6 (bx0 P.pt), .n 6 (bx1 P.pt), .n 6 (by0 P.pt), .n 6 (by1 P.pt), .b (bi P.pt)]) :: (nv 4 [k]) :: (nv 4 [l]) :: (.pointer (some ⟨(γ1 0), 0, none⟩)) :: (.pointer (some ⟨(γ1 1), 0, none⟩)) :: (.pointer (some ⟨(γ1 2), 0, none⟩)) :: (.bool false) :: (.bool true) :: (sv [.n 6 (bx0 P.pt), .n 6 (bx1 P.pt), .n 6 (by0 P.pt), .n 6 (by1 P.pt), .b (bi P.pt)]) :: (.bool true) :: (.bool false) :: undef :: undef :: undef :: undef :: undef :: undef :: (sv [.n 6 (bx0 P.pt), .n 6 (bx1 P.pt), .n 6 (by0 P.pt), .n 6 (by1 P.pt), .b (bi P.pt)]) :: (nv 4 [rN]) :: (sv [.n 6 (bx0 Z2.pt), .n 6 (bx1 Z2.pt), .n 6 (by0 Z2.pt), .n 6 (by1 Z2.pt), .b (bi Z2.pt)]) :: (sv [.n 6 (bx0 Z2.pt), .n 6 (bx1 Z2.pt), .n 6 (by0 Z2.pt), .n 6 (by1 Z2.pt), .b (bi Z2.pt)]) :: (.bool true) :: undef :: undef :: undef :: undef :: undef :: undef :: undef :: undef :: undef :: undef :: undef :: undef :: undef :: undef :: undef :: undef :: undef :: undef :: undef :: undef :: undef :: undef :: undef :: undef :: undef :: undef :: undef :: undef :: undef :: undef :: undef :: undef :: undef :: undef :: undef :: undef :: undef :: undef :: undef :: undef :: undef :: undef :: undef :: undef :: undef :: undef :: undef :: undef :: undef :: undef :: undef :: undef :: []), []⟩) 0 (fun _ => 0) (fun _ => 0) (fun _ => 0) (fun _ => []) (fun _ => []) [17, 18, 19, 20, 21, 7] (.inl ⟨rfl, by kernel_rfl⟩) (by kernel_rfl) rfl rfl rfl ?_ ?_)
  · refine GSteps.cons (gm_val (v := sv [.n 6 (bx0 P.pt), .n 6 (bx1 P.pt), .n 6 (by0 P.pt), .n 6 (by1 P.pt), .b (bi P.pt)]) rfl (fun _ => rfl) (fun _ => rfl) (fun γ w h => ex_loads 0 5 (m := [.n 6 (bx0 P.pt), .n 6 (bx1 P.pt), .n 6 (by0 P.pt), .n 6 (by1 P.pt), .b (bi P.pt)]) flG2 rfl rfl (A7.keep h.out) rfl rfl) rfl) ?_
    refine GSteps.cons (gm_call (v := nv 4 [rN]) rfl (fun _ => rfl) (fun _ => rfl) (fun γ w => ex_call (vs := []) rfl Tryz.call18 rfl) (fun w h => r3R_n2 _) rfl) ?_
    refine GSteps.cons (gm_call (v := sv [.n 6 (bx0 Z2.pt), .n 6 (bx1 Z2.pt), .n 6 (by0 Z2.pt), .n 6 (by1 Z2.pt), .b (bi Z2.pt)]) rfl (fun _ => rfl) (fun _ => rfl) (fun γ w => ex_call (vs := [sv [.n 6 (bx0 P.pt), .n 6 (bx1 P.pt), .n 6 (by0 P.pt), .n 6 (by1 P.pt), .b (bi P.pt)], nv 4 [rN]]) rfl Tryz.call16 rfl) (fun w h => twomul_v P Z2 rN rN_B2 hT _) rfl) ?_
    refine GSteps.cons (gm_call (v := sv [.n 6 (bx0 Z2.pt), .n 6 (bx1 Z2.pt), .n 6 (by0 Z2.pt), .n 6 (by1 Z2.pt), .b (bi Z2.pt)]) rfl (fun _ => rfl) (fun _ => rfl) (fun γ w => ex_call (vs := []) rfl Tryz.call14 rfl) (fun w h => twoZero_p _) rfl) ?_
    refine GSteps.cons (gm_val (v := .bool true) rfl (fun _ => rfl) (fun _ => rfl) (fun γ w h => ex_eqs gdG2 eqG2 rfl rfl rfl (shG2_of (bx0_B Z2.pt) (bx1_B Z2.pt) (by0_B Z2.pt) (by1_B Z2.pt)) (shG2_of (bx0_B Z2.pt) (bx1_B Z2.pt) (by0_B Z2.pt) (by1_B Z2.pt)) true (by simp)) rfl) ?_
    refine GSteps.cons (gm_val (v := .bool true) rfl (fun _ => rfl) (fun _ => rfl) (fun γ w h => ex_assign _) rfl) ?_
    exact GSteps.nil
  intro _ w11 hb11 _ _
  refine th_r ?_
  have A12 := A7.keep hb11.out
  have A13 := A8.keep hb11.out
  have A14 := A9.keep hb11.out
  have HB15 := below_then HB10 hb11.out
  refine wp_seq ?_
  refine wp_seq (region_m (F := fun _ => ⟨List.toArray ((sv [.n 6 (bx0 P.pt), .n 6 (bx1 P.pt), .n 6 (by0 P.pt), .n 6 (by1 P.pt), .b (bi P.pt)]) :: (nv 4 [k]) :: (nv 4 [l]) :: (.pointer (some ⟨(γ1 0), 0, none⟩)) :: (.pointer (some ⟨(γ1 1), 0, none⟩)) :: (.pointer (some ⟨(γ1 2), 0, none⟩)) :: (.bool false) :: (.bool true) :: (sv [.n 6 (bx0 P.pt), .n 6 (bx1 P.pt), .n 6 (by0 P.pt), .n 6 (by1 P.pt), .b (bi P.pt)]) :: (.bool true) :: (.bool false) :: undef :: undef :: undef :: undef :: undef :: undef :: (sv [.n 6 (bx0 P.pt), .n 6 (bx1 P.pt), .n 6 (by0 P.pt), .n 6 (by1 P.pt), .b (bi P.pt)]) :: (nv 4 [rN]) :: (sv [.n 6 (bx0 Z2.pt), .n 6 (bx1 Z2.pt), .n 6 (by0 Z2.pt), .n 6 (by1 Z2.pt), .b (bi Z2.pt)]) :: (sv [.n 6 (bx0 Z2.pt), .n 6 (bx1 Z2.pt), .n 6 (by0 Z2.pt), .n 6 (by1 Z2.pt), .b (bi Z2.pt)]) :: (.bool true) :: (.bool true) :: (sv [.n 6 (bx0 P.pt), .n 6 (bx1 P.pt), .n 6 (by0 P.pt), .n 6 (by1 P.pt), .b (bi P.pt)]) :: (.bool true) :: (.bool false) :: (.bool false) :: (.bool true) :: (.bool false) :: (.bool false) :: undef :: undef :: undef :: undef :: undef :: undef :: undef :: undef :: undef :: undef :: undef :: undef :: undef :: undef :: undef :: undef :: undef :: undef :: undef :: undef :: undef :: undef :: undef :: undef :: undef :: undef :: undef :: undef :: undef :: undef :: undef :: undef :: undef :: undef :: undef :: undef :: undef :: undef :: undef :: undef :: undef :: undef :: undef :: undef :: []), []⟩) 0 (fun _ => 0) (fun _ => 0) (fun _ => 0) (fun _ => []) (fun _ => []) [22, 23, 24, 25, 26, 27, 28, 29] (.inr ⟨rfl, by kernel_rfl⟩) (by kernel_rfl) rfl rfl rfl ?_ ?_)
  · refine GSteps.cons (gm_val (v := .bool true) rfl (fun _ => rfl) (fun _ => rfl) (fun γ w h => ex_move _) rfl) ?_
    refine GSteps.cons (gm_val (v := sv [.n 6 (bx0 P.pt), .n 6 (bx1 P.pt), .n 6 (by0 P.pt), .n 6 (by1 P.pt), .b (bi P.pt)]) rfl (fun _ => rfl) (fun _ => rfl) (fun γ w h => ex_loads 0 5 (m := [.n 6 (bx0 P.pt), .n 6 (bx1 P.pt), .n 6 (by0 P.pt), .n 6 (by1 P.pt), .b (bi P.pt)]) flG2 rfl rfl (A12.keep h.out) rfl rfl) rfl) ?_
    refine GSteps.cons (gm_call (v := .bool true) rfl (fun _ => rfl) (fun _ => rfl) (fun γ w => ex_call (vs := [sv [.n 6 (bx0 P.pt), .n 6 (bx1 P.pt), .n 6 (by0 P.pt), .n 6 (by1 P.pt), .b (bi P.pt)]]) rfl Tryz.call17 rfl) (fun w h => twoGroup_q P true ⟨fun _ => hT, fun _ => rfl⟩ _) rfl) ?_
    refine GSteps.cons (gm_val (v := .bool false) rfl (fun _ => rfl) (fun _ => rfl) (fun γ w h => ex_neqb (a := true) (b := true) Tryz.underlying4 rfl rfl _ rfl) rfl) ?_
    refine GSteps.cons (gm_val (v := .bool false) rfl (fun _ => rfl) (fun _ => rfl) (fun γ w h => ex_move _) rfl) ?_
    refine GSteps.cons (gm_call (v := .bool true) rfl (fun _ => rfl) (fun _ => rfl) (fun γ w => ex_call (vs := []) rfl Tryz.call11 rfl) (fun w h => twoalive_v _) rfl) ?_
    refine GSteps.cons (gm_val (v := .bool false) rfl (fun _ => rfl) (fun _ => rfl) (fun γ w h => ex_not (r := true) rfl) rfl) ?_
    refine GSteps.cons (gm_val (v := .bool false) rfl (fun _ => rfl) (fun _ => rfl) (fun γ w h => ex_pick (r := false) rfl) rfl) ?_
    exact GSteps.nil
  intro _ w16 hb16 _ _
  refine th_r ?_
  have A17 := A12.keep hb16.out
  have A18 := A13.keep hb16.out
  have A19 := A14.keep hb16.out
  have HB20 := below_then HB15 hb16.out
  refine wp_cond_false rfl ?_
  refine wp_skip ?_
  refine th_r ?_
  refine wp_seq ?_
  refine wp_seq (region_m (F := fun _ => ⟨List.toArray ((sv [.n 6 (bx0 P.pt), .n 6 (bx1 P.pt), .n 6 (by0 P.pt), .n 6 (by1 P.pt), .b (bi P.pt)]) :: (nv 4 [k]) :: (nv 4 [l]) :: (.pointer (some ⟨(γ1 0), 0, none⟩)) :: (.pointer (some ⟨(γ1 1), 0, none⟩)) :: (.pointer (some ⟨(γ1 2), 0, none⟩)) :: (.bool false) :: (.bool true) :: (sv [.n 6 (bx0 P.pt), .n 6 (bx1 P.pt), .n 6 (by0 P.pt), .n 6 (by1 P.pt), .b (bi P.pt)]) :: (.bool true) :: (.bool false) :: undef :: undef :: undef :: undef :: undef :: undef :: (sv [.n 6 (bx0 P.pt), .n 6 (bx1 P.pt), .n 6 (by0 P.pt), .n 6 (by1 P.pt), .b (bi P.pt)]) :: (nv 4 [rN]) :: (sv [.n 6 (bx0 Z2.pt), .n 6 (bx1 Z2.pt), .n 6 (by0 Z2.pt), .n 6 (by1 Z2.pt), .b (bi Z2.pt)]) :: (sv [.n 6 (bx0 Z2.pt), .n 6 (bx1 Z2.pt), .n 6 (by0 Z2.pt), .n 6 (by1 Z2.pt), .b (bi Z2.pt)]) :: (.bool true) :: (.bool true) :: (sv [.n 6 (bx0 P.pt), .n 6 (bx1 P.pt), .n 6 (by0 P.pt), .n 6 (by1 P.pt), .b (bi P.pt)]) :: (.bool true) :: (.bool false) :: (.bool false) :: (.bool true) :: (.bool false) :: (.bool false) :: (.bool true) :: (.bool false) :: undef :: undef :: undef :: undef :: undef :: undef :: undef :: undef :: undef :: undef :: undef :: undef :: undef :: undef :: undef :: undef :: undef :: undef :: undef :: undef :: undef :: undef :: undef :: undef :: undef :: undef :: undef :: undef :: undef :: undef :: undef :: undef :: undef :: undef :: undef :: undef :: undef :: undef :: undef :: undef :: undef :: undef :: []), []⟩) 0 (fun _ => 0) (fun _ => 0) (fun _ => 0) (fun _ => []) (fun _ => []) [30, 31] (.inr ⟨rfl, by kernel_rfl⟩) (by kernel_rfl) rfl rfl rfl ?_ ?_)
  · refine GSteps.cons (gm_val (v := .bool true) rfl (fun _ => rfl) (fun _ => rfl) (fun γ w h => ex_move _) rfl) ?_
    refine GSteps.cons (gm_val (v := .bool false) rfl (fun _ => rfl) (fun _ => rfl) (fun γ w h => ex_not (r := true) rfl) rfl) ?_
    exact GSteps.nil
  intro _ w21 hb21 _ _
  refine th_r ?_
  have A22 := A17.keep hb21.out
  have A23 := A18.keep hb21.out
  have A24 := A19.keep hb21.out
  have HB25 := below_then HB20 hb21.out
  refine wp_cond_false rfl ?_
  refine wp_skip ?_
  refine th_r ?_
  refine wp_seq (region_m (F := fun _ => ⟨List.toArray ((sv [.n 6 (bx0 P.pt), .n 6 (bx1 P.pt), .n 6 (by0 P.pt), .n 6 (by1 P.pt), .b (bi P.pt)]) :: (nv 4 [k]) :: (nv 4 [l]) :: (.pointer (some ⟨(γ1 0), 0, none⟩)) :: (.pointer (some ⟨(γ1 1), 0, none⟩)) :: (.pointer (some ⟨(γ1 2), 0, none⟩)) :: (.bool true) :: (.bool true) :: (sv [.n 6 (bx0 P.pt), .n 6 (bx1 P.pt), .n 6 (by0 P.pt), .n 6 (by1 P.pt), .b (bi P.pt)]) :: (.bool true) :: (.bool false) :: undef :: undef :: undef :: undef :: undef :: undef :: (sv [.n 6 (bx0 P.pt), .n 6 (bx1 P.pt), .n 6 (by0 P.pt), .n 6 (by1 P.pt), .b (bi P.pt)]) :: (nv 4 [rN]) :: (sv [.n 6 (bx0 Z2.pt), .n 6 (bx1 Z2.pt), .n 6 (by0 Z2.pt), .n 6 (by1 Z2.pt), .b (bi Z2.pt)]) :: (sv [.n 6 (bx0 Z2.pt), .n 6 (bx1 Z2.pt), .n 6 (by0 Z2.pt), .n 6 (by1 Z2.pt), .b (bi Z2.pt)]) :: (.bool true) :: (.bool true) :: (sv [.n 6 (bx0 P.pt), .n 6 (bx1 P.pt), .n 6 (by0 P.pt), .n 6 (by1 P.pt), .b (bi P.pt)]) :: (.bool true) :: (.bool false) :: (.bool false) :: (.bool true) :: (.bool false) :: (.bool false) :: (.bool true) :: (.bool false) :: (sv [.n 6 (bx0 P.pt), .n 6 (bx1 P.pt), .n 6 (by0 P.pt), .n 6 (by1 P.pt), .b (bi P.pt)]) :: (nv 4 [k]) :: (sv [.n 6 (bx0 A.pt), .n 6 (bx1 A.pt), .n 6 (by0 A.pt), .n 6 (by1 A.pt), .b (bi A.pt)]) :: (sv [.n 6 (bx0 P.pt), .n 6 (bx1 P.pt), .n 6 (by0 P.pt), .n 6 (by1 P.pt), .b (bi P.pt)]) :: (nv 4 [k]) :: (nv 4 [c]) :: (sv [.n 6 (bx0 A.pt), .n 6 (bx1 A.pt), .n 6 (by0 A.pt), .n 6 (by1 A.pt), .b (bi A.pt)]) :: (.bool true) :: (.bool true) :: (sv [.n 6 (bx0 P.pt), .n 6 (bx1 P.pt), .n 6 (by0 P.pt), .n 6 (by1 P.pt), .b (bi P.pt)]) :: (nv 4 [k]) :: (sv [.n 6 (bx0 A.pt), .n 6 (bx1 A.pt), .n 6 (by0 A.pt), .n 6 (by1 A.pt), .b (bi A.pt)]) :: (sv [.n 6 (bx0 P.pt), .n 6 (bx1 P.pt), .n 6 (by0 P.pt), .n 6 (by1 P.pt), .b (bi P.pt)]) :: (nv 4 [l]) :: (sv [.n 6 (bx0 B.pt), .n 6 (bx1 B.pt), .n 6 (by0 B.pt), .n 6 (by1 B.pt), .b (bi B.pt)]) :: (sv [.n 6 (bx0 G.pt), .n 6 (bx1 G.pt), .n 6 (by0 G.pt), .n 6 (by1 G.pt), .b (bi G.pt)]) :: (sv [.n 6 (bx0 P.pt), .n 6 (bx1 P.pt), .n 6 (by0 P.pt), .n 6 (by1 P.pt), .b (bi P.pt)]) :: (nv 4 [k]) :: (nv 4 [l]) :: (nv 4 [d]) :: (sv [.n 6 (bx0 G.pt), .n 6 (bx1 G.pt), .n 6 (by0 G.pt), .n 6 (by1 G.pt), .b (bi G.pt)]) :: (.bool true) :: (.bool true) :: (.bool true) :: (sv [.n 6 (bx0 P.pt), .n 6 (bx1 P.pt), .n 6 (by0 P.pt), .n 6 (by1 P.pt), .b (bi P.pt)]) :: (nv 4 [k]) :: (sv [.n 6 (bx0 A.pt), .n 6 (bx1 A.pt), .n 6 (by0 A.pt), .n 6 (by1 A.pt), .b (bi A.pt)]) :: (nv 4 [l]) :: (sv [.n 6 (bx0 H.pt), .n 6 (bx1 H.pt), .n 6 (by0 H.pt), .n 6 (by1 H.pt), .b (bi H.pt)]) :: (sv [.n 6 (bx0 P.pt), .n 6 (bx1 P.pt), .n 6 (by0 P.pt), .n 6 (by1 P.pt), .b (bi P.pt)]) :: (nv 4 [k]) :: (nv 4 [l]) :: (nv 4 [e]) :: (sv [.n 6 (bx0 H.pt), .n 6 (bx1 H.pt), .n 6 (by0 H.pt), .n 6 (by1 H.pt), .b (bi H.pt)]) :: (.bool true) :: (.bool true) :: (.bool true) :: (sv [.n 6 (bx0 P.pt), .n 6 (bx1 P.pt), .n 6 (by0 P.pt), .n 6 (by1 P.pt), .b (bi P.pt)]) :: (nv 4 [k]) :: (sv [.n 6 (bx0 A.pt), .n 6 (bx1 A.pt), .n 6 (by0 A.pt), .n 6 (by1 A.pt), .b (bi A.pt)]) :: (.bool true) :: (.bool true) :: []), []⟩) 0 (fun _ => 0) (fun _ => 0) (fun _ => 0) (fun _ => []) (fun _ => []) [32, 33, 34, 35, 36, 37, 38, 39, 40, 41, 42, 43, 44, 45, 46, 47, 48, 49, 50, 51, 52, 53, 54, 55, 56, 57, 58, 59, 60, 61, 62, 63, 64, 65, 66, 67, 68, 69, 70, 71, 72, 73, 6] (.inl ⟨rfl, by kernel_rfl⟩) (by kernel_rfl) rfl rfl rfl ?_ ?_)
  · refine GSteps.cons (gm_val (v := sv [.n 6 (bx0 P.pt), .n 6 (bx1 P.pt), .n 6 (by0 P.pt), .n 6 (by1 P.pt), .b (bi P.pt)]) rfl (fun _ => rfl) (fun _ => rfl) (fun γ w h => ex_loads 0 5 (m := [.n 6 (bx0 P.pt), .n 6 (bx1 P.pt), .n 6 (by0 P.pt), .n 6 (by1 P.pt), .b (bi P.pt)]) flG2 rfl rfl (A22.keep h.out) rfl rfl) rfl) ?_
    refine GSteps.cons (gm_val (v := nv 4 [k]) rfl (fun _ => rfl) (fun _ => rfl) (fun γ w h => ex_loadsn (K := 4) 0 1 (m := [k]) flFr rfl rfl (A23.keep h.out) rfl rfl) rfl) ?_
    refine GSteps.cons (gm_call (v := sv [.n 6 (bx0 A.pt), .n 6 (bx1 A.pt), .n 6 (by0 A.pt), .n 6 (by1 A.pt), .b (bi A.pt)]) rfl (fun _ => rfl) (fun _ => rfl) (fun γ w => ex_call (vs := [sv [.n 6 (bx0 P.pt), .n 6 (bx1 P.pt), .n 6 (by0 P.pt), .n 6 (by1 P.pt), .b (bi P.pt)], nv 4 [k]]) rfl Tryz.call16 rfl) (fun w h => twomul_v P A k hk hA.symm _) rfl) ?_
    refine GSteps.cons (gm_val (v := sv [.n 6 (bx0 P.pt), .n 6 (bx1 P.pt), .n 6 (by0 P.pt), .n 6 (by1 P.pt), .b (bi P.pt)]) rfl (fun _ => rfl) (fun _ => rfl) (fun γ w h => ex_loads 0 5 (m := [.n 6 (bx0 P.pt), .n 6 (bx1 P.pt), .n 6 (by0 P.pt), .n 6 (by1 P.pt), .b (bi P.pt)]) flG2 rfl rfl (A22.keep h.out) rfl rfl) rfl) ?_
    refine GSteps.cons (gm_val (v := nv 4 [k]) rfl (fun _ => rfl) (fun _ => rfl) (fun γ w h => ex_loadsn (K := 4) 0 1 (m := [k]) flFr rfl rfl (A23.keep h.out) rfl rfl) rfl) ?_
    refine GSteps.cons (gm_call (v := nv 4 [c]) rfl (fun _ => rfl) (fun _ => rfl) (fun γ w => ex_call (vs := [nv 4 [k]]) rfl Tryz.call19 rfl) (fun w h => frClean_n k _ hk c hc) rfl) ?_
    refine GSteps.cons (gm_call (v := sv [.n 6 (bx0 A.pt), .n 6 (bx1 A.pt), .n 6 (by0 A.pt), .n 6 (by1 A.pt), .b (bi A.pt)]) rfl (fun _ => rfl) (fun _ => rfl) (fun γ w => ex_call (vs := [sv [.n 6 (bx0 P.pt), .n 6 (bx1 P.pt), .n 6 (by0 P.pt), .n 6 (by1 P.pt), .b (bi P.pt)], nv 4 [c]]) rfl Tryz.call16 rfl) (fun w h => twomul_v P A c (hc ▸ fr_modB2 _) (by rw [hA, hc]; exact EP.times_mod C2 hT k) _) rfl) ?_
    refine GSteps.cons (gm_val (v := .bool true) rfl (fun _ => rfl) (fun _ => rfl) (fun γ w h => ex_eqs gdG2 eqG2 rfl rfl rfl (shG2_of (bx0_B A.pt) (bx1_B A.pt) (by0_B A.pt) (by1_B A.pt)) (shG2_of (bx0_B A.pt) (bx1_B A.pt) (by0_B A.pt) (by1_B A.pt)) true (by simp)) rfl) ?_
    refine GSteps.cons (gm_val (v := .bool true) rfl (fun _ => rfl) (fun _ => rfl) (fun γ w h => ex_move _) rfl) ?_
    refine GSteps.cons (gm_val (v := sv [.n 6 (bx0 P.pt), .n 6 (bx1 P.pt), .n 6 (by0 P.pt), .n 6 (by1 P.pt), .b (bi P.pt)]) rfl (fun _ => rfl) (fun _ => rfl) (fun γ w h => ex_loads 0 5 (m := [.n 6 (bx0 P.pt), .n 6 (bx1 P.pt), .n 6 (by0 P.pt), .n 6 (by1 P.pt), .b (bi P.pt)]) flG2 rfl rfl (A22.keep h.out) rfl rfl) rfl) ?_
    refine GSteps.cons (gm_val (v := nv 4 [k]) rfl (fun _ => rfl) (fun _ => rfl) (fun γ w h => ex_loadsn (K := 4) 0 1 (m := [k]) flFr rfl rfl (A23.keep h.out) rfl rfl) rfl) ?_
    refine GSteps.cons (gm_call (v := sv [.n 6 (bx0 A.pt), .n 6 (bx1 A.pt), .n 6 (by0 A.pt), .n 6 (by1 A.pt), .b (bi A.pt)]) rfl (fun _ => rfl) (fun _ => rfl) (fun γ w => ex_call (vs := [sv [.n 6 (bx0 P.pt), .n 6 (bx1 P.pt), .n 6 (by0 P.pt), .n 6 (by1 P.pt), .b (bi P.pt)], nv 4 [k]]) rfl Tryz.call16 rfl) (fun w h => twomul_v P A k hk hA.symm _) rfl) ?_
    refine GSteps.cons (gm_val (v := sv [.n 6 (bx0 P.pt), .n 6 (bx1 P.pt), .n 6 (by0 P.pt), .n 6 (by1 P.pt), .b (bi P.pt)]) rfl (fun _ => rfl) (fun _ => rfl) (fun γ w h => ex_loads 0 5 (m := [.n 6 (bx0 P.pt), .n 6 (bx1 P.pt), .n 6 (by0 P.pt), .n 6 (by1 P.pt), .b (bi P.pt)]) flG2 rfl rfl (A22.keep h.out) rfl rfl) rfl) ?_
    refine GSteps.cons (gm_val (v := nv 4 [l]) rfl (fun _ => rfl) (fun _ => rfl) (fun γ w h => ex_loadsn (K := 4) 0 1 (m := [l]) flFr rfl rfl (A24.keep h.out) rfl rfl) rfl) ?_
    refine GSteps.cons (gm_call (v := sv [.n 6 (bx0 B.pt), .n 6 (bx1 B.pt), .n 6 (by0 B.pt), .n 6 (by1 B.pt), .b (bi B.pt)]) rfl (fun _ => rfl) (fun _ => rfl) (fun γ w => ex_call (vs := [sv [.n 6 (bx0 P.pt), .n 6 (bx1 P.pt), .n 6 (by0 P.pt), .n 6 (by1 P.pt), .b (bi P.pt)], nv 4 [l]]) rfl Tryz.call16 rfl) (fun w h => twomul_v P B l hl hB.symm _) rfl) ?_
    refine GSteps.cons (gm_call (v := sv [.n 6 (bx0 G.pt), .n 6 (bx1 G.pt), .n 6 (by0 G.pt), .n 6 (by1 G.pt), .b (bi G.pt)]) rfl (fun _ => rfl) (fun _ => rfl) (fun γ w => ex_call (vs := [sv [.n 6 (bx0 A.pt), .n 6 (bx1 A.pt), .n 6 (by0 A.pt), .n 6 (by1 A.pt), .b (bi A.pt)], sv [.n 6 (bx0 B.pt), .n 6 (bx1 B.pt), .n 6 (by0 B.pt), .n 6 (by1 B.pt), .b (bi B.pt)]]) rfl Tryz.call15 rfl) (fun w h => twoadd_v A B G (by rw [hA, hB, hG, EP.times_add]) _) rfl) ?_
    refine GSteps.cons (gm_val (v := sv [.n 6 (bx0 P.pt), .n 6 (bx1 P.pt), .n 6 (by0 P.pt), .n 6 (by1 P.pt), .b (bi P.pt)]) rfl (fun _ => rfl) (fun _ => rfl) (fun γ w h => ex_loads 0 5 (m := [.n 6 (bx0 P.pt), .n 6 (bx1 P.pt), .n 6 (by0 P.pt), .n 6 (by1 P.pt), .b (bi P.pt)]) flG2 rfl rfl (A22.keep h.out) rfl rfl) rfl) ?_
    refine GSteps.cons (gm_val (v := nv 4 [k]) rfl (fun _ => rfl) (fun _ => rfl) (fun γ w h => ex_loadsn (K := 4) 0 1 (m := [k]) flFr rfl rfl (A23.keep h.out) rfl rfl) rfl) ?_
    refine GSteps.cons (gm_val (v := nv 4 [l]) rfl (fun _ => rfl) (fun _ => rfl) (fun γ w h => ex_loadsn (K := 4) 0 1 (m := [l]) flFr rfl rfl (A24.keep h.out) rfl rfl) rfl) ?_
    refine GSteps.cons (gm_call (v := nv 4 [d]) rfl (fun _ => rfl) (fun _ => rfl) (fun γ w => ex_call (vs := [nv 4 [k], nv 4 [l]]) rfl Tryz.call20 rfl) (fun w h => frAdd_n k l _ hk hl d hd) rfl) ?_
    refine GSteps.cons (gm_call (v := sv [.n 6 (bx0 G.pt), .n 6 (bx1 G.pt), .n 6 (by0 G.pt), .n 6 (by1 G.pt), .b (bi G.pt)]) rfl (fun _ => rfl) (fun _ => rfl) (fun γ w => ex_call (vs := [sv [.n 6 (bx0 P.pt), .n 6 (bx1 P.pt), .n 6 (by0 P.pt), .n 6 (by1 P.pt), .b (bi P.pt)], nv 4 [d]]) rfl Tryz.call16 rfl) (fun w h => twomul_v P G d (hd ▸ fr_modB2 _) (by rw [hG, hd]; exact EP.times_mod C2 hT (k + l)) _) rfl) ?_
    refine GSteps.cons (gm_val (v := .bool true) rfl (fun _ => rfl) (fun _ => rfl) (fun γ w h => ex_eqs gdG2 eqG2 rfl rfl rfl (shG2_of (bx0_B G.pt) (bx1_B G.pt) (by0_B G.pt) (by1_B G.pt)) (shG2_of (bx0_B G.pt) (bx1_B G.pt) (by0_B G.pt) (by1_B G.pt)) true (by simp)) rfl) ?_
    refine GSteps.cons (gm_val (v := .bool true) rfl (fun _ => rfl) (fun _ => rfl) (fun γ w h => ex_pick (r := true) rfl) rfl) ?_
    refine GSteps.cons (gm_val (v := .bool true) rfl (fun _ => rfl) (fun _ => rfl) (fun γ w h => ex_move _) rfl) ?_
    refine GSteps.cons (gm_val (v := sv [.n 6 (bx0 P.pt), .n 6 (bx1 P.pt), .n 6 (by0 P.pt), .n 6 (by1 P.pt), .b (bi P.pt)]) rfl (fun _ => rfl) (fun _ => rfl) (fun γ w h => ex_loads 0 5 (m := [.n 6 (bx0 P.pt), .n 6 (bx1 P.pt), .n 6 (by0 P.pt), .n 6 (by1 P.pt), .b (bi P.pt)]) flG2 rfl rfl (A22.keep h.out) rfl rfl) rfl) ?_
    refine GSteps.cons (gm_val (v := nv 4 [k]) rfl (fun _ => rfl) (fun _ => rfl) (fun γ w h => ex_loadsn (K := 4) 0 1 (m := [k]) flFr rfl rfl (A23.keep h.out) rfl rfl) rfl) ?_
    refine GSteps.cons (gm_call (v := sv [.n 6 (bx0 A.pt), .n 6 (bx1 A.pt), .n 6 (by0 A.pt), .n 6 (by1 A.pt), .b (bi A.pt)]) rfl (fun _ => rfl) (fun _ => rfl) (fun γ w => ex_call (vs := [sv [.n 6 (bx0 P.pt), .n 6 (bx1 P.pt), .n 6 (by0 P.pt), .n 6 (by1 P.pt), .b (bi P.pt)], nv 4 [k]]) rfl Tryz.call16 rfl) (fun w h => twomul_v P A k hk hA.symm _) rfl) ?_
    refine GSteps.cons (gm_val (v := nv 4 [l]) rfl (fun _ => rfl) (fun _ => rfl) (fun γ w h => ex_loadsn (K := 4) 0 1 (m := [l]) flFr rfl rfl (A24.keep h.out) rfl rfl) rfl) ?_
    refine GSteps.cons (gm_call (v := sv [.n 6 (bx0 H.pt), .n 6 (bx1 H.pt), .n 6 (by0 H.pt), .n 6 (by1 H.pt), .b (bi H.pt)]) rfl (fun _ => rfl) (fun _ => rfl) (fun γ w => ex_call (vs := [sv [.n 6 (bx0 A.pt), .n 6 (bx1 A.pt), .n 6 (by0 A.pt), .n 6 (by1 A.pt), .b (bi A.pt)], nv 4 [l]]) rfl Tryz.call16 rfl) (fun w h => twomul_v A H l hl (by rw [hA, hH, Nat.mul_comm, EP.times_mul]) _) rfl) ?_
    refine GSteps.cons (gm_val (v := sv [.n 6 (bx0 P.pt), .n 6 (bx1 P.pt), .n 6 (by0 P.pt), .n 6 (by1 P.pt), .b (bi P.pt)]) rfl (fun _ => rfl) (fun _ => rfl) (fun γ w h => ex_loads 0 5 (m := [.n 6 (bx0 P.pt), .n 6 (bx1 P.pt), .n 6 (by0 P.pt), .n 6 (by1 P.pt), .b (bi P.pt)]) flG2 rfl rfl (A22.keep h.out) rfl rfl) rfl) ?_
    refine GSteps.cons (gm_val (v := nv 4 [k]) rfl (fun _ => rfl) (fun _ => rfl) (fun γ w h => ex_loadsn (K := 4) 0 1 (m := [k]) flFr rfl rfl (A23.keep h.out) rfl rfl) rfl) ?_
    refine GSteps.cons (gm_val (v := nv 4 [l]) rfl (fun _ => rfl) (fun _ => rfl) (fun γ w h => ex_loadsn (K := 4) 0 1 (m := [l]) flFr rfl rfl (A24.keep h.out) rfl rfl) rfl) ?_
    refine GSteps.cons (gm_call (v := nv 4 [e]) rfl (fun _ => rfl) (fun _ => rfl) (fun γ w => ex_call (vs := [nv 4 [k], nv 4 [l]]) rfl Tryz.call21 rfl) (fun w h => frMul_n k l _ hk hl e he) rfl) ?_
    refine GSteps.cons (gm_call (v := sv [.n 6 (bx0 H.pt), .n 6 (bx1 H.pt), .n 6 (by0 H.pt), .n 6 (by1 H.pt), .b (bi H.pt)]) rfl (fun _ => rfl) (fun _ => rfl) (fun γ w => ex_call (vs := [sv [.n 6 (bx0 P.pt), .n 6 (bx1 P.pt), .n 6 (by0 P.pt), .n 6 (by1 P.pt), .b (bi P.pt)], nv 4 [e]]) rfl Tryz.call16 rfl) (fun w h => twomul_v P H e (he ▸ fr_modB2 _) (by rw [hH, he]; exact EP.times_mod C2 hT (k * l)) _) rfl) ?_
    refine GSteps.cons (gm_val (v := .bool true) rfl (fun _ => rfl) (fun _ => rfl) (fun γ w h => ex_eqs gdG2 eqG2 rfl rfl rfl (shG2_of (bx0_B H.pt) (bx1_B H.pt) (by0_B H.pt) (by1_B H.pt)) (shG2_of (bx0_B H.pt) (bx1_B H.pt) (by0_B H.pt) (by1_B H.pt)) true (by simp)) rfl) ?_
    refine GSteps.cons (gm_val (v := .bool true) rfl (fun _ => rfl) (fun _ => rfl) (fun γ w h => ex_pick (r := true) rfl) rfl) ?_
    refine GSteps.cons (gm_val (v := .bool true) rfl (fun _ => rfl) (fun _ => rfl) (fun γ w h => ex_move _) rfl) ?_
    refine GSteps.cons (gm_val (v := sv [.n 6 (bx0 P.pt), .n 6 (bx1 P.pt), .n 6 (by0 P.pt), .n 6 (by1 P.pt), .b (bi P.pt)]) rfl (fun _ => rfl) (fun _ => rfl) (fun γ w h => ex_loads 0 5 (m := [.n 6 (bx0 P.pt), .n 6 (bx1 P.pt), .n 6 (by0 P.pt), .n 6 (by1 P.pt), .b (bi P.pt)]) flG2 rfl rfl (A22.keep h.out) rfl rfl) rfl) ?_
    refine GSteps.cons (gm_val (v := nv 4 [k]) rfl (fun _ => rfl) (fun _ => rfl) (fun γ w h => ex_loadsn (K := 4) 0 1 (m := [k]) flFr rfl rfl (A23.keep h.out) rfl rfl) rfl) ?_
    refine GSteps.cons (gm_call (v := sv [.n 6 (bx0 A.pt), .n 6 (bx1 A.pt), .n 6 (by0 A.pt), .n 6 (by1 A.pt), .b (bi A.pt)]) rfl (fun _ => rfl) (fun _ => rfl) (fun γ w => ex_call (vs := [sv [.n 6 (bx0 P.pt), .n 6 (bx1 P.pt), .n 6 (by0 P.pt), .n 6 (by1 P.pt), .b (bi P.pt)], nv 4 [k]]) rfl Tryz.call16 rfl) (fun w h => twomul_v P A k hk hA.symm _) rfl) ?_
    refine GSteps.cons (gm_call (v := .bool true) rfl (fun _ => rfl) (fun _ => rfl) (fun γ w => ex_call (vs := [sv [.n 6 (bx0 A.pt), .n 6 (bx1 A.pt), .n 6 (by0 A.pt), .n 6 (by1 A.pt), .b (bi A.pt)]]) rfl Tryz.call17 rfl) (fun w h => twoGroup_q A true ⟨fun _ => (by rw [hA, ← EP.times_mul, Nat.mul_comm, EP.times_mul, hT]; exact EP.times_zero C2 k), fun _ => rfl⟩ _) rfl) ?_
    refine GSteps.cons (gm_val (v := .bool true) rfl (fun _ => rfl) (fun _ => rfl) (fun γ w h => ex_pick (r := true) rfl) rfl) ?_
    refine GSteps.cons (gm_val (v := .bool true) rfl (fun _ => rfl) (fun _ => rfl) (fun γ w h => ex_assign _) rfl) ?_
    exact GSteps.nil
  intro _ w26 hb26 _ _
  refine th_r ?_
  have A27 := A22.keep hb26.out
  have A28 := A23.keep hb26.out
  have A29 := A24.keep hb26.out
  have HB30 := below_then HB25 hb26.out
  exact wp_ret (bodyPost_ret (ret1 Tryz.results5 (res_tmp rfl)) rfl ⟨rfl, HB30⟩)

theorem twoOrder_v (x0 : Nat) (x1 : Nat) (y0 : Nat) (y1 : Nat) (i : Bool) (hx0 : x0 < fpB) (hx1 : x1 < fpB) (hy0 : y0 < fpB) (hy1 : y1 < fpB) (k l : Nat) (hk : k < frB) (hl : l < frB) (w : World) :
    Calls Tryz.prog 5 #[sv [.n 6 x0, .n 6 x1, .n 6 y0, .n 6 y1, .b i], nv 4 [k], nv 4 [l]] w (Is (.bool true) w) := by
  by_cases o : RawOk2 x0 x1 y0 y1 i
  · obtain ⟨P, rfl, rfl, rfl, rfl, rfl⟩ := o
    by_cases hT : EP.times C2 rN P = Z2
    · exact twoOrder_1 P hT k l hk hl w
    · exact twoOrder_0 P _ rfl hT k l w
  · exact twoOrder_n x0 x1 y0 y1 i hx0 hx1 hy0 hy1 o k l w
end
end Go.Proofs.YtmhieifjmgcbkaaGreat

/- What is proved here: contracts of the reference's R, Less, minus and plus (layer 3); the laws of package one on how often a point is taken. -/
import Derived.Test.YticglgegfebnjaaNumFr
import Derived.Test.YticglgegfebnjaaRef1Fp
import Derived.Test.YticglgegfebnjaaFn1Fr
import Derived.Deep.RegionHeld3
import Derived.Test.YticglgegfebnjaaLwOne1
namespace Go.Proofs.Yticglgegfebnjaa
section
open Go.RowKit

theorem r3R_v (w : World) : Calls Try.prog 22 #[] w (Is (frV rN) w) := by
  rw [frM_lit]
  go_enter Try.func22, Try.ntmps22
  go_wp2
  refine bodyPost_ret (v := .agg #[.int .u64 18446744069414584321, .int .u64 6034159408538082302, .int .u64 3691218898639771653, .int .u64 8353516859464449352]) (by simp [results, Try.results22, go_sem]) rfl ⟨rfl, below_alloc w _⟩
end

section
open Go.RowKit Cv

theorem r3R_n (w : World) : Calls Try.prog 22 #[] w (Is (nv 4 [rN]) w) := by rw [nv4R]; exact r3R_v w
theorem fr_modB (a : Nat) : a % rN < frB := Nat.lt_trans (frM_mod a) frM_lt

set_option maxRecDepth 20000 in
set_option maxHeartbeats 4000000 in
theorem oneOrder_n (x : Nat) (y : Nat) (i : Bool) (hx : x < fpB) (hy : y < fpB) (h0 : ¬ RawOk x y i) (k l : Nat) (w : World) :
    Calls Try.prog 7 #[sv [.n 6 x, .n 6 y, .b i], nv 4 [k], nv 4 [l]] w (Is (.bool true) w) := by
  go_enter Try.func7, Try.ntmps7
  refine wp_seq (region_m (F := fun γ => ⟨List.toArray ((sv [.n 6 x, .n 6 y, .b i]) :: (nv 4 [k]) :: (nv 4 [l]) :: (.pointer (some ⟨γ 0, 0, none⟩)) :: (.pointer (some ⟨γ 1, 0, none⟩)) :: (.pointer (some ⟨γ 2, 0, none⟩)) :: (.bool false) :: undef :: undef :: undef :: undef :: undef :: undef :: undef :: undef :: undef :: undef :: undef :: undef :: undef :: undef :: undef :: undef :: undef :: undef :: undef :: undef :: undef :: undef :: undef :: undef :: undef :: undef :: undef :: undef :: undef :: undef :: undef :: undef :: undef :: undef :: undef :: undef :: undef :: undef :: undef :: undef :: undef :: undef :: undef :: undef :: undef :: undef :: undef :: undef :: undef :: undef :: undef :: undef :: undef :: undef :: undef :: undef :: undef :: undef :: undef :: undef :: undef :: undef :: undef :: undef :: undef :: undef :: undef :: []), []⟩) 3 (fun j_ => match j_ with | 0 => 26 | 1 => 41 | _ => 41) (fun j_ => match j_ with | 0 => 0 | 1 => 1 | _ => 2) (fun j_ => match j_ with | 0 => 0 | 1 => 1 | _ => 2) (fun j_ => match j_ with | 0 => segs [.n 6 x, .n 6 y, .b i] | 1 => segs [.n 4 k] | _ => segs [.n 4 l]) (fun j_ => match j_ with | 0 => segs [.n 6 x, .n 6 y, .b i] | 1 => segs [.n 4 k] | _ => segs [.n 4 l]) [3, 4, 5, 6] (.inr ⟨rfl, by kernel_rfl⟩) (by kernel_rfl) rfl rfl rfl ?_ ?_)
  · refine GSteps.cons (gm_box 0 rfl (fun _ => rfl) (fun _ _ => rfl) (fun γ w h => ex_boxs (l := [.n 6 x, .n 6 y, .b i]) rfl) rfl rfl rfl) ?_
    refine GSteps.cons (gm_box 1 rfl (fun _ => rfl) (fun _ _ => rfl) (fun γ w h => ex_boxsn (K := 4) (l := [k]) rfl) rfl rfl rfl) ?_
    refine GSteps.cons (gm_box 2 rfl (fun _ => rfl) (fun _ _ => rfl) (fun γ w h => ex_boxsn (K := 4) (l := [l]) rfl) rfl rfl rfl) ?_
    refine GSteps.cons (gm_val (v := .bool false) rfl (fun _ => rfl) (fun _ => rfl) (fun γ w h => ex_assign _) rfl) ?_
    exact GSteps.nil
  intro γ1 w1 hb1 hB1 hn1
  refine th_r ?_
  have A2 : SB 26 w1 (γ1 0) [.n 6 x, .n 6 y, .b i] := (hB1 0 (by decide)).2
  have le2 := (hB1 0 (by decide)).1
  have A3 : SB 41 w1 (γ1 1) [.n 4 k] := (hB1 1 (by decide)).2
  have le3 := (hB1 1 (by decide)).1
  have A4 : SB 41 w1 (γ1 2) [.n 4 l] := (hB1 2 (by decide)).2
  have le4 := (hB1 2 (by decide)).1
  have HB5 := below_then (Below.refl w.heap.size w) hb1.out
  refine wp_seq ?_
  refine wp_seq (region_m (F := fun _ => ⟨List.toArray ((sv [.n 6 x, .n 6 y, .b i]) :: (nv 4 [k]) :: (nv 4 [l]) :: (.pointer (some ⟨(γ1 0), 0, none⟩)) :: (.pointer (some ⟨(γ1 1), 0, none⟩)) :: (.pointer (some ⟨(γ1 2), 0, none⟩)) :: (.bool false) :: undef :: (sv [.n 6 x, .n 6 y, .b i]) :: (.bool false) :: (.bool true) :: undef :: undef :: undef :: undef :: undef :: undef :: undef :: undef :: undef :: undef :: undef :: undef :: undef :: undef :: undef :: undef :: undef :: undef :: undef :: undef :: undef :: undef :: undef :: undef :: undef :: undef :: undef :: undef :: undef :: undef :: undef :: undef :: undef :: undef :: undef :: undef :: undef :: undef :: undef :: undef :: undef :: undef :: undef :: undef :: undef :: undef :: undef :: undef :: undef :: undef :: undef :: undef :: undef :: undef :: undef :: undef :: undef :: undef :: undef :: undef :: undef :: undef :: undef :: []), []⟩) 0 (fun _ => 0) (fun _ => 0) (fun _ => 0) (fun _ => []) (fun _ => []) [8, 9, 10] (.inr ⟨rfl, by kernel_rfl⟩) (by kernel_rfl) rfl rfl rfl ?_ ?_)
  · refine GSteps.cons (gm_val (v := sv [.n 6 x, .n 6 y, .b i]) rfl (fun _ => rfl) (fun _ => rfl) (fun γ w h => ex_loads 0 3 (m := [.n 6 x, .n 6 y, .b i]) flG1 rfl rfl (A2.keep h.out) rfl rfl) rfl) ?_
    refine GSteps.cons (gm_call (v := .bool false) rfl (fun _ => rfl) (fun _ => rfl) (fun γ w => ex_call (vs := [sv [.n 6 x, .n 6 y, .b i]]) rfl Try.call9 rfl) (fun w h => r8Right_no hx hy h0 _) rfl) ?_
    refine GSteps.cons (gm_val (v := .bool true) rfl (fun _ => rfl) (fun _ => rfl) (fun γ w h => ex_not (r := false) rfl) rfl) ?_
    exact GSteps.nil
  intro _ w6 hb6 _ _
  refine th_r ?_
  have A7 := A2.keep hb6.out
  have A8 := A3.keep hb6.out
  have A9 := A4.keep hb6.out
  have HB10 := below_then HB5 hb6.out
  refine wp_cond_true rfl ?_
  refine wp_seq (region_m (F := fun _ => ⟨List.toArray ((sv [.n 6 x, .n 6 y, .b i]) :: (nv 4 [k]) :: (nv 4 [l]) :: (.pointer (some ⟨(γ1 0), 0, none⟩)) :: (.pointer (some ⟨(γ1 1), 0, none⟩)) :: (.pointer (some ⟨(γ1 2), 0, none⟩)) :: (.bool true) :: undef :: (sv [.n 6 x, .n 6 y, .b i]) :: (.bool false) :: (.bool true) :: (.bool true) :: (.bool true) :: (sv [.n 6 x, .n 6 y, .b i]) :: (.bool false) :: (.bool true) :: (.bool true) :: undef :: undef :: undef :: undef :: undef :: undef :: undef :: undef :: undef :: undef :: undef :: undef :: undef :: undef :: undef :: undef :: undef :: undef :: undef :: undef :: undef :: undef :: undef :: undef :: undef :: undef :: undef :: undef :: undef :: undef :: undef :: undef :: undef :: undef :: undef :: undef :: undef :: undef :: undef :: undef :: undef :: undef :: undef :: undef :: undef :: undef :: undef :: undef :: undef :: undef :: undef :: undef :: undef :: undef :: undef :: undef :: undef :: []), []⟩) 0 (fun _ => 0) (fun _ => 0) (fun _ => 0) (fun _ => []) (fun _ => []) [11, 12, 13, 14, 15, 16, 6] (.inr ⟨rfl, by kernel_rfl⟩) (by kernel_rfl) rfl rfl rfl ?_ ?_)
  · refine GSteps.cons (gm_call (v := .bool true) rfl (fun _ => rfl) (fun _ => rfl) (fun γ w => ex_call (vs := []) rfl Try.call10 rfl) (fun w h => onealive_v _) rfl) ?_
    refine GSteps.cons (gm_val (v := .bool true) rfl (fun _ => rfl) (fun _ => rfl) (fun γ w h => ex_move _) rfl) ?_
    refine GSteps.cons (gm_val (v := sv [.n 6 x, .n 6 y, .b i]) rfl (fun _ => rfl) (fun _ => rfl) (fun γ w h => ex_loads 0 3 (m := [.n 6 x, .n 6 y, .b i]) flG1 rfl rfl (A7.keep h.out) rfl rfl) rfl) ?_
    refine GSteps.cons (gm_call (v := .bool false) rfl (fun _ => rfl) (fun _ => rfl) (fun γ w => ex_call (vs := [sv [.n 6 x, .n 6 y, .b i]]) rfl Try.call12 rfl) (fun w h => oneGroup_n x y i hx hy h0 _) rfl) ?_
    refine GSteps.cons (gm_val (v := .bool true) rfl (fun _ => rfl) (fun _ => rfl) (fun γ w h => ex_not (r := false) rfl) rfl) ?_
    refine GSteps.cons (gm_val (v := .bool true) rfl (fun _ => rfl) (fun _ => rfl) (fun γ w h => ex_pick (r := true) rfl) rfl) ?_
    refine GSteps.cons (gm_val (v := .bool true) rfl (fun _ => rfl) (fun _ => rfl) (fun γ w h => ex_assign _) rfl) ?_
    exact GSteps.nil
  intro _ w11 hb11 _ _
  refine th_r ?_
  have A12 := A7.keep hb11.out
  have A13 := A8.keep hb11.out
  have A14 := A9.keep hb11.out
  have HB15 := below_then HB10 hb11.out
  exact wp_ret (th_ret (bodyPost_ret (ret1 Try.results7 (res_tmp rfl)) rfl ⟨rfl, HB15⟩))

set_option maxRecDepth 20000 in
set_option maxHeartbeats 4000000 in
theorem oneOrder_0 (P T : E1) (hT : EP.times C1 rN P = T) (hT0 : T ≠ Z1) (k l : Nat) (w : World) :
    Calls Try.prog 7 #[sv [.n 6 (ax P.pt), .n 6 (ay P.pt), .b (ai P.pt)], nv 4 [k], nv 4 [l]] w (Is (.bool true) w) := by
  go_enter Try.func7, Try.ntmps7
  refine wp_seq (region_m (F := fun γ => ⟨List.toArray ((sv [.n 6 (ax P.pt), .n 6 (ay P.pt), .b (ai P.pt)]) :: (nv 4 [k]) :: (nv 4 [l]) :: (.pointer (some ⟨γ 0, 0, none⟩)) :: (.pointer (some ⟨γ 1, 0, none⟩)) :: (.pointer (some ⟨γ 2, 0, none⟩)) :: (.bool false) :: undef :: undef :: undef :: undef :: undef :: undef :: undef :: undef :: undef :: undef :: undef :: undef :: undef :: undef :: undef :: undef :: undef :: undef :: undef :: undef :: undef :: undef :: undef :: undef :: undef :: undef :: undef :: undef :: undef :: undef :: undef :: undef :: undef :: undef :: undef :: undef :: undef :: undef :: undef :: undef :: undef :: undef :: undef :: undef :: undef :: undef :: undef :: undef :: undef :: undef :: undef :: undef :: undef :: undef :: undef :: undef :: undef :: undef :: undef :: undef :: undef :: undef :: undef :: undef :: undef :: undef :: undef :: []), []⟩) 3 (fun j_ => match j_ with | 0 => 26 | 1 => 41 | _ => 41) (fun j_ => match j_ with | 0 => 0 | 1 => 1 | _ => 2) (fun j_ => match j_ with | 0 => 0 | 1 => 1 | _ => 2) (fun j_ => match j_ with | 0 => segs [.n 6 (ax P.pt), .n 6 (ay P.pt), .b (ai P.pt)] | 1 => segs [.n 4 k] | _ => segs [.n 4 l]) (fun j_ => match j_ with | 0 => segs [.n 6 (ax P.pt), .n 6 (ay P.pt), .b (ai P.pt)] | 1 => segs [.n 4 k] | _ => segs [.n 4 l]) [3, 4, 5, 6] (.inr ⟨rfl, by kernel_rfl⟩) (by kernel_rfl) rfl rfl rfl ?_ ?_)
  · refine GSteps.cons (gm_box 0 rfl (fun _ => rfl) (fun _ _ => rfl) (fun γ w h => ex_boxs (l := [.n 6 (ax P.pt), .n 6 (ay P.pt), .b (ai P.pt)]) rfl) rfl rfl rfl) ?_
    refine GSteps.cons (gm_box 1 rfl (fun _ => rfl) (fun _ _ => rfl) (fun γ w h => ex_boxsn (K := 4) (l := [k]) rfl) rfl rfl rfl) ?_
    refine GSteps.cons (gm_box 2 rfl (fun _ => rfl) (fun _ _ => rfl) (fun γ w h => ex_boxsn (K := 4) (l := [l]) rfl) rfl rfl rfl) ?_
    refine GSteps.cons (gm_val (v := .bool false) rfl (fun _ => rfl) (fun _ => rfl) (fun γ w h => ex_assign _) rfl) ?_
    exact GSteps.nil
  intro γ1 w1 hb1 hB1 hn1
  refine th_r ?_
  have A2 : SB 26 w1 (γ1 0) [.n 6 (ax P.pt), .n 6 (ay P.pt), .b (ai P.pt)] := (hB1 0 (by decide)).2
  have le2 := (hB1 0 (by decide)).1
  have A3 : SB 41 w1 (γ1 1) [.n 4 k] := (hB1 1 (by decide)).2
  have le3 := (hB1 1 (by decide)).1
  have A4 : SB 41 w1 (γ1 2) [.n 4 l] := (hB1 2 (by decide)).2
  have le4 := (hB1 2 (by decide)).1
  have HB5 := below_then (Below.refl w.heap.size w) hb1.out
  refine wp_seq ?_
  refine wp_seq (region_m (F := fun _ => ⟨List.toArray ((sv [.n 6 (ax P.pt), .n 6 (ay P.pt), .b (ai P.pt)]) :: (nv 4 [k]) :: (nv 4 [l]) :: (.pointer (some ⟨(γ1 0), 0, none⟩)) :: (.pointer (some ⟨(γ1 1), 0, none⟩)) :: (.pointer (some ⟨(γ1 2), 0, none⟩)) :: (.bool false) :: undef :: (sv [.n 6 (ax P.pt), .n 6 (ay P.pt), .b (ai P.pt)]) :: (.bool true) :: (.bool false) :: undef :: undef :: undef :: undef :: undef :: undef :: undef :: undef :: undef :: undef :: undef :: undef :: undef :: undef :: undef :: undef :: undef :: undef :: undef :: undef :: undef :: undef :: undef :: undef :: undef :: undef :: undef :: undef :: undef :: undef :: undef :: undef :: undef :: undef :: undef :: undef :: undef :: undef :: undef :: undef :: undef :: undef :: undef :: undef :: undef :: undef :: undef :: undef :: undef :: undef :: undef :: undef :: undef :: undef :: undef :: undef :: undef :: undef :: undef :: undef :: undef :: undef :: undef :: []), []⟩) 0 (fun _ => 0) (fun _ => 0) (fun _ => 0) (fun _ => []) (fun _ => []) [8, 9, 10] (.inr ⟨rfl, by kernel_rfl⟩) (by kernel_rfl) rfl rfl rfl ?_ ?_)
  · refine GSteps.cons (gm_val (v := sv [.n 6 (ax P.pt), .n 6 (ay P.pt), .b (ai P.pt)]) rfl (fun _ => rfl) (fun _ => rfl) (fun γ w h => ex_loads 0 3 (m := [.n 6 (ax P.pt), .n 6 (ay P.pt), .b (ai P.pt)]) flG1 rfl rfl (A2.keep h.out) rfl rfl) rfl) ?_
    refine GSteps.cons (gm_call (v := .bool true) rfl (fun _ => rfl) (fun _ => rfl) (fun γ w => ex_call (vs := [sv [.n 6 (ax P.pt), .n 6 (ay P.pt), .b (ai P.pt)]]) rfl Try.call9 rfl) (fun w h => r8Right_p P _) rfl) ?_
    refine GSteps.cons (gm_val (v := .bool false) rfl (fun _ => rfl) (fun _ => rfl) (fun γ w h => ex_not (r := true) rfl) rfl) ?_
    exact GSteps.nil
  intro _ w6 hb6 _ _
  refine th_r ?_
  have A7 := A2.keep hb6.out
  have A8 := A3.keep hb6.out
  have A9 := A4.keep hb6.out
  have HB10 := below_then HB5 hb6.out
  refine wp_cond_false rfl ?_
  refine wp_skip ?_
  refine th_r ?_
  refine wp_seq (region_m (F := fun _ => ⟨List.toArray ((sv [.n 6 (ax P.pt), .n 6 (ay P.pt), .b (ai P.pt)]) :: (nv 4 [k]) :: (nv 4 [l]) :: (.pointer (some ⟨(γ1 0), 0, none⟩)) :: (.pointer (some ⟨(γ1 1), 0, none⟩)) :: (.pointer (some ⟨(γ1 2), 0, none⟩)) :: (.bool false) :: (.bool false) :: (sv [.n 6 (ax P.pt), .n 6 (ay P.pt), .b (ai P.pt)]) :: (.bool true) :: (.bool false) :: undef :: undef :: undef :: undef :: undef :: undef :: (sv [.n 6 (ax P.pt), .n 6 (ay P.pt), .b (ai P.pt)]) :: (nv 4 [rN]) :: (sv [.n 6 (ax T.pt), .n 6 (ay T.pt), .b (ai T.pt)]) :: (sv [.n 6 (ax Z1.pt), .n 6 (ay Z1.pt), .b (ai Z1.pt)]) :: (.bool false) :: undef :: undef :: undef :: undef :: undef :: undef :: undef :: undef :: undef :: undef :: undef :: undef :: undef :: undef :: undef :: undef :: undef :: undef :: undef :: undef :: undef :: undef :: undef :: undef :: undef :: undef :: undef :: undef :: undef :: undef :: undef :: undef :: undef :: undef :: undef :: undef :: undef :: undef :: undef :: undef :: undef :: undef :: undef :: undef :: undef :: undef :: undef :: undef :: undef :: undef :: undef :: undef :: []), []⟩) 0 (fun _ => 0) (fun _ => 0) (fun _ => 0) (fun _ => []) (fun _ => []) [17, 18, 19, 20, 21, 7] (.inl ⟨rfl, by kernel_rfl⟩) (by kernel_rfl) rfl rfl rfl ?_ ?_)
  · refine GSteps.cons (gm_val (v := sv [.n 6 (ax P.pt), .n 6 (ay P.pt), .b (ai P.pt)]) rfl (fun _ => rfl) (fun _ => rfl) (fun γ w h => ex_loads 0 3 (m := [.n 6 (ax P.pt), .n 6 (ay P.pt), .b (ai P.pt)]) flG1 rfl rfl (A7.keep h.out) rfl rfl) rfl) ?_
    refine GSteps.cons (gm_call (v := nv 4 [rN]) rfl (fun _ => rfl) (fun _ => rfl) (fun γ w => ex_call (vs := []) rfl Try.call22 rfl) (fun w h => r3R_n _) rfl) ?_
    refine GSteps.cons (gm_call (v := sv [.n 6 (ax T.pt), .n 6 (ay T.pt), .b (ai T.pt)]) rfl (fun _ => rfl) (fun _ => rfl) (fun γ w => ex_call (vs := [sv [.n 6 (ax P.pt), .n 6 (ay P.pt), .b (ai P.pt)], nv 4 [rN]]) rfl Try.call21 rfl) (fun w h => onemul_v P T rN rN_B hT _) rfl) ?_
    refine GSteps.cons (gm_call (v := sv [.n 6 (ax Z1.pt), .n 6 (ay Z1.pt), .b (ai Z1.pt)]) rfl (fun _ => rfl) (fun _ => rfl) (fun γ w => ex_call (vs := []) rfl Try.call14 rfl) (fun w h => oneZero_p _) rfl) ?_
    refine GSteps.cons (gm_val (v := .bool false) rfl (fun _ => rfl) (fun _ => rfl) (fun γ w h => ex_eqs gdG1 eqG1 rfl rfl rfl (shG1_of (ax_B T.pt) (ay_B T.pt)) (shG1_of (ax_B Z1.pt) (ay_B Z1.pt)) false ⟨fun e => Bool.noConfusion e, fun e => absurd (EP.ext' (gs_inj e)) hT0⟩) rfl) ?_
    refine GSteps.cons (gm_val (v := .bool false) rfl (fun _ => rfl) (fun _ => rfl) (fun γ w h => ex_assign _) rfl) ?_
    exact GSteps.nil
  intro _ w11 hb11 _ _
  refine th_r ?_
  have A12 := A7.keep hb11.out
  have A13 := A8.keep hb11.out
  have A14 := A9.keep hb11.out
  have HB15 := below_then HB10 hb11.out
  refine wp_seq ?_
  refine wp_seq (region_m (F := fun _ => ⟨List.toArray ((sv [.n 6 (ax P.pt), .n 6 (ay P.pt), .b (ai P.pt)]) :: (nv 4 [k]) :: (nv 4 [l]) :: (.pointer (some ⟨(γ1 0), 0, none⟩)) :: (.pointer (some ⟨(γ1 1), 0, none⟩)) :: (.pointer (some ⟨(γ1 2), 0, none⟩)) :: (.bool false) :: (.bool false) :: (sv [.n 6 (ax P.pt), .n 6 (ay P.pt), .b (ai P.pt)]) :: (.bool true) :: (.bool false) :: undef :: undef :: undef :: undef :: undef :: undef :: (sv [.n 6 (ax P.pt), .n 6 (ay P.pt), .b (ai P.pt)]) :: (nv 4 [rN]) :: (sv [.n 6 (ax T.pt), .n 6 (ay T.pt), .b (ai T.pt)]) :: (sv [.n 6 (ax Z1.pt), .n 6 (ay Z1.pt), .b (ai Z1.pt)]) :: (.bool false) :: (.bool false) :: (sv [.n 6 (ax P.pt), .n 6 (ay P.pt), .b (ai P.pt)]) :: (.bool false) :: (.bool false) :: (.bool false) :: (.bool true) :: (.bool false) :: (.bool false) :: undef :: undef :: undef :: undef :: undef :: undef :: undef :: undef :: undef :: undef :: undef :: undef :: undef :: undef :: undef :: undef :: undef :: undef :: undef :: undef :: undef :: undef :: undef :: undef :: undef :: undef :: undef :: undef :: undef :: undef :: undef :: undef :: undef :: undef :: undef :: undef :: undef :: undef :: undef :: undef :: undef :: undef :: undef :: undef :: []), []⟩) 0 (fun _ => 0) (fun _ => 0) (fun _ => 0) (fun _ => []) (fun _ => []) [22, 23, 24, 25, 26, 27, 28, 29] (.inr ⟨rfl, by kernel_rfl⟩) (by kernel_rfl) rfl rfl rfl ?_ ?_)
  · refine GSteps.cons (gm_val (v := .bool false) rfl (fun _ => rfl) (fun _ => rfl) (fun γ w h => ex_move _) rfl) ?_
    refine GSteps.cons (gm_val (v := sv [.n 6 (ax P.pt), .n 6 (ay P.pt), .b (ai P.pt)]) rfl (fun _ => rfl) (fun _ => rfl) (fun γ w h => ex_loads 0 3 (m := [.n 6 (ax P.pt), .n 6 (ay P.pt), .b (ai P.pt)]) flG1 rfl rfl (A12.keep h.out) rfl rfl) rfl) ?_
    refine GSteps.cons (gm_call (v := .bool false) rfl (fun _ => rfl) (fun _ => rfl) (fun γ w => ex_call (vs := [sv [.n 6 (ax P.pt), .n 6 (ay P.pt), .b (ai P.pt)]]) rfl Try.call12 rfl) (fun w h => oneGroup_q P false ⟨fun e => Bool.noConfusion e, fun e => absurd (hT.symm.trans e) hT0⟩ _) rfl) ?_
    refine GSteps.cons (gm_val (v := .bool false) rfl (fun _ => rfl) (fun _ => rfl) (fun γ w h => ex_neqb (a := false) (b := false) Try.underlying4 rfl rfl _ rfl) rfl) ?_
    refine GSteps.cons (gm_val (v := .bool false) rfl (fun _ => rfl) (fun _ => rfl) (fun γ w h => ex_move _) rfl) ?_
    refine GSteps.cons (gm_call (v := .bool true) rfl (fun _ => rfl) (fun _ => rfl) (fun γ w => ex_call (vs := []) rfl Try.call10 rfl) (fun w h => onealive_v _) rfl) ?_
    refine GSteps.cons (gm_val (v := .bool false) rfl (fun _ => rfl) (fun _ => rfl) (fun γ w h => ex_not (r := true) rfl) rfl) ?_
    refine GSteps.cons (gm_val (v := .bool false) rfl (fun _ => rfl) (fun _ => rfl) (fun γ w h => ex_pick (r := false) rfl) rfl) ?_
    exact GSteps.nil
  intro _ w16 hb16 _ _
  refine th_r ?_
  have A17 := A12.keep hb16.out
  have A18 := A13.keep hb16.out
  have A19 := A14.keep hb16.out
  have HB20 := below_then HB15 hb16.out
  refine wp_cond_false rfl ?_
  refine wp_skip ?_
  refine th_r ?_
  refine wp_seq ?_
  refine wp_seq (region_m (F := fun _ => ⟨List.toArray ((sv [.n 6 (ax P.pt), .n 6 (ay P.pt), .b (ai P.pt)]) :: (nv 4 [k]) :: (nv 4 [l]) :: (.pointer (some ⟨(γ1 0), 0, none⟩)) :: (.pointer (some ⟨(γ1 1), 0, none⟩)) :: (.pointer (some ⟨(γ1 2), 0, none⟩)) :: (.bool false) :: (.bool false) :: (sv [.n 6 (ax P.pt), .n 6 (ay P.pt), .b (ai P.pt)]) :: (.bool true) :: (.bool false) :: undef :: undef :: undef :: undef :: undef :: undef :: (sv [.n 6 (ax P.pt), .n 6 (ay P.pt), .b (ai P.pt)]) :: (nv 4 [rN]) :: (sv [.n 6 (ax T.pt), .n 6 (ay T.pt), .b (ai T.pt)]) :: (sv [.n 6 (ax Z1.pt), .n 6 (ay Z1.pt), .b (ai Z1.pt)]) :: (.bool false) :: (.bool false) :: (sv [.n 6 (ax P.pt), .n 6 (ay P.pt), .b (ai P.pt)]) :: (.bool false) :: (.bool false) :: (.bool false) :: (.bool true) :: (.bool false) :: (.bool false) :: (.bool false) :: (.bool true) :: undef :: undef :: undef :: undef :: undef :: undef :: undef :: undef :: undef :: undef :: undef :: undef :: undef :: undef :: undef :: undef :: undef :: undef :: undef :: undef :: undef :: undef :: undef :: undef :: undef :: undef :: undef :: undef :: undef :: undef :: undef :: undef :: undef :: undef :: undef :: undef :: undef :: undef :: undef :: undef :: undef :: undef :: []), []⟩) 0 (fun _ => 0) (fun _ => 0) (fun _ => 0) (fun _ => []) (fun _ => []) [30, 31] (.inr ⟨rfl, by kernel_rfl⟩) (by kernel_rfl) rfl rfl rfl ?_ ?_)
  · refine GSteps.cons (gm_val (v := .bool false) rfl (fun _ => rfl) (fun _ => rfl) (fun γ w h => ex_move _) rfl) ?_
    refine GSteps.cons (gm_val (v := .bool true) rfl (fun _ => rfl) (fun _ => rfl) (fun γ w h => ex_not (r := false) rfl) rfl) ?_
    exact GSteps.nil
  intro _ w21 hb21 _ _
  refine th_r ?_
  have A22 := A17.keep hb21.out
  have A23 := A18.keep hb21.out
  have A24 := A19.keep hb21.out
  have HB25 := below_then HB20 hb21.out
  refine wp_cond_true rfl ?_
  refine wp_seq (region_m (F := fun _ => ⟨List.toArray ((sv [.n 6 (ax P.pt), .n 6 (ay P.pt), .b (ai P.pt)]) :: (nv 4 [k]) :: (nv 4 [l]) :: (.pointer (some ⟨(γ1 0), 0, none⟩)) :: (.pointer (some ⟨(γ1 1), 0, none⟩)) :: (.pointer (some ⟨(γ1 2), 0, none⟩)) :: (.bool true) :: (.bool false) :: (sv [.n 6 (ax P.pt), .n 6 (ay P.pt), .b (ai P.pt)]) :: (.bool true) :: (.bool false) :: undef :: undef :: undef :: undef :: undef :: undef :: (sv [.n 6 (ax P.pt), .n 6 (ay P.pt), .b (ai P.pt)]) :: (nv 4 [rN]) :: (sv [.n 6 (ax T.pt), .n 6 (ay T.pt), .b (ai T.pt)]) :: (sv [.n 6 (ax Z1.pt), .n 6 (ay Z1.pt), .b (ai Z1.pt)]) :: (.bool false) :: (.bool false) :: (sv [.n 6 (ax P.pt), .n 6 (ay P.pt), .b (ai P.pt)]) :: (.bool false) :: (.bool false) :: (.bool false) :: (.bool true) :: (.bool false) :: (.bool false) :: (.bool false) :: (.bool true) :: undef :: undef :: undef :: undef :: undef :: undef :: undef :: undef :: undef :: undef :: undef :: undef :: undef :: undef :: undef :: undef :: undef :: undef :: undef :: undef :: undef :: undef :: undef :: undef :: undef :: undef :: undef :: undef :: undef :: undef :: undef :: undef :: undef :: undef :: undef :: undef :: undef :: undef :: undef :: undef :: undef :: undef :: []), []⟩) 0 (fun _ => 0) (fun _ => 0) (fun _ => 0) (fun _ => []) (fun _ => []) [6] (.inr ⟨rfl, by kernel_rfl⟩) (by kernel_rfl) rfl rfl rfl ?_ ?_)
  · refine GSteps.cons (gm_val (v := .bool true) rfl (fun _ => rfl) (fun _ => rfl) (fun γ w h => ex_assign _) rfl) ?_
    exact GSteps.nil
  intro _ w26 hb26 _ _
  refine th_r ?_
  have A27 := A22.keep hb26.out
  have A28 := A23.keep hb26.out
  have A29 := A24.keep hb26.out
  have HB30 := below_then HB25 hb26.out
  exact wp_ret (th_ret (bodyPost_ret (ret1 Try.results7 (res_tmp rfl)) rfl ⟨rfl, HB30⟩))

set_option maxRecDepth 20000 in
set_option maxHeartbeats 4000000 in
theorem oneOrder_1 (P : E1) (hT : EP.times C1 rN P = Z1) (k l : Nat) (hk : k < frB) (hl : l < frB) (w : World) :
    Calls Try.prog 7 #[sv [.n 6 (ax P.pt), .n 6 (ay P.pt), .b (ai P.pt)], nv 4 [k], nv 4 [l]] w (Is (.bool true) w) := by
  obtain ⟨c, hc⟩ : ∃ c, c = k % rN := ⟨_, rfl⟩
  obtain ⟨d, hd⟩ : ∃ d, d = (k + l) % rN := ⟨_, rfl⟩
  obtain ⟨e, he⟩ : ∃ e, e = k * l % rN := ⟨_, rfl⟩
  obtain ⟨A, hA⟩ : ∃ q_ : E1, q_ = EP.times C1 k P := ⟨_, rfl⟩
  obtain ⟨B, hB⟩ : ∃ q_ : E1, q_ = EP.times C1 l P := ⟨_, rfl⟩
  obtain ⟨G, hG⟩ : ∃ q_ : E1, q_ = EP.times C1 (k + l) P := ⟨_, rfl⟩
  obtain ⟨H, hH⟩ : ∃ q_ : E1, q_ = EP.times C1 (k * l) P := ⟨_, rfl⟩
  go_enter Try.func7, Try.ntmps7
  refine wp_seq (region_m (F := fun γ => ⟨List.toArray ((sv [.n 6 (ax P.pt), .n 6 (ay P.pt), .b (ai P.pt)]) :: (nv 4 [k]) :: (nv 4 [l]) :: (.pointer (some ⟨γ 0, 0, none⟩)) :: (.pointer (some ⟨γ 1, 0, none⟩)) :: (.pointer (some ⟨γ 2, 0, none⟩)) :: (.bool false) :: undef :: undef :: undef :: undef :: undef :: undef :: undef :: undef :: undef :: undef :: undef :: undef :: undef :: undef :: undef :: undef :: undef :: undef :: undef :: undef :: undef :: undef :: undef :: undef :: undef :: undef :: undef :: undef :: undef :: undef :: undef :: undef :: undef :: undef :: undef :: undef :: undef :: undef :: undef :: undef :: undef :: undef :: undef :: undef :: undef :: undef :: undef :: undef :: undef :: undef :: undef :: undef :: undef :: undef :: undef :: undef :: undef :: undef :: undef :: undef :: undef :: undef :: undef :: undef :: undef :: undef :: undef :: []), []⟩) 3 (fun j_ => match j_ with | 0 => 26 | 1 => 41 | _ => 41) (fun j_ => match j_ with | 0 => 0 | 1 => 1 | _ => 2) (fun j_ => match j_ with | 0 => 0 | 1 => 1 | _ => 2) (fun j_ => match j_ with | 0 => segs [.n 6 (ax P.pt), .n 6 (ay P.pt), .b (ai P.pt)] | 1 => segs [.n 4 k] | _ => segs [.n 4 l]) (fun j_ => match j_ with | 0 => segs [.n 6 (ax P.pt), .n 6 (ay P.pt), .b (ai P.pt)] | 1 => segs [.n 4 k] | _ => segs [.n 4 l]) [3, 4, 5, 6] (.inr ⟨rfl, by kernel_rfl⟩) (by kernel_rfl) rfl rfl rfl ?_ ?_)
  · refine GSteps.cons (gm_box 0 rfl (fun _ => rfl) (fun _ _ => rfl) (fun γ w h => ex_boxs (l := [.n 6 (ax P.pt), .n 6 (ay P.pt), .b (ai P.pt)]) rfl) rfl rfl rfl) ?_
    refine GSteps.cons (gm_box 1 rfl (fun _ => rfl) (fun _ _ => rfl) (fun γ w h => ex_boxsn (K := 4) (l := [k]) rfl) rfl rfl rfl) ?_
    refine GSteps.cons (gm_box 2 rfl (fun _ => rfl) (fun _ _ => rfl) (fun γ w h => ex_boxsn (K := 4) (l := [l]) rfl) rfl rfl rfl) ?_
    refine GSteps.cons (gm_val (v := .bool false) rfl (fun _ => rfl) (fun _ => rfl) (fun γ w h => ex_assign _) rfl) ?_
    exact GSteps.nil
  intro γ1 w1 hb1 hB1 hn1
  refine th_r ?_
  have A2 : SB 26 w1 (γ1 0) [.n 6 (ax P.pt), .n 6 (ay P.pt), .b (ai P.pt)] := (hB1 0 (by decide)).2
  have le2 := (hB1 0 (by decide)).1
  have A3 : SB 41 w1 (γ1 1) [.n 4 k] := (hB1 1 (by decide)).2
  have le3 := (hB1 1 (by decide)).1
  have A4 : SB 41 w1 (γ1 2) [.n 4 l] := (hB1 2 (by decide)).2
  have le4 := (hB1 2 (by decide)).1
  have HB5 := below_then (Below.refl w.heap.size w) hb1.out
  refine wp_seq ?_
  refine wp_seq (region_m (F := fun _ => ⟨List.toArray ((sv [.n 6 (ax P.pt), .n 6 (ay P.pt), .b (ai P.pt)]) :: (nv 4 [k]) :: (nv 4 [l]) :: (.pointer (some ⟨(γ1 0), 0, none⟩)) :: (.pointer (some ⟨(γ1 1), 0, none⟩)) :: (.pointer (some ⟨(γ1 2), 0, none⟩)) :: (.bool false) :: undef :: (sv [.n 6 (ax P.pt), .n 6 (ay P.pt), .b (ai P.pt)]) :: (.bool true) :: (.bool false) :: undef :: undef :: undef :: undef :: undef :: undef :: undef :: undef :: undef :: undef :: undef :: undef :: undef :: undef :: undef :: undef :: undef :: undef :: undef :: undef :: undef :: undef :: undef :: undef :: undef :: undef :: undef :: undef :: undef :: undef :: undef :: undef :: undef :: undef :: undef :: undef :: undef :: undef :: undef :: undef :: undef :: undef :: undef :: undef :: undef :: undef :: undef :: undef :: undef :: undef :: undef :: undef :: undef :: undef :: undef :: undef :: undef :: undef :: undef :: undef :: undef :: undef :: undef :: []), []⟩) 0 (fun _ => 0) (fun _ => 0) (fun _ => 0) (fun _ => []) (fun _ => []) [8, 9, 10] (.inr ⟨rfl, by kernel_rfl⟩) (by kernel_rfl) rfl rfl rfl ?_ ?_)
  · refine GSteps.cons (gm_val (v := sv [.n 6 (ax P.pt), .n 6 (ay P.pt), .b (ai P.pt)]) rfl (fun _ => rfl) (fun _ => rfl) (fun γ w h => ex_loads 0 3 (m := [.n 6 (ax P.pt), .n 6 (ay P.pt), .b (ai P.pt)]) flG1 rfl rfl (A2.keep h.out) rfl rfl) rfl) ?_
    refine GSteps.cons (gm_call (v := .bool true) rfl (fun _ => rfl) (fun _ => rfl) (fun γ w => ex_call (vs := [sv [.n 6 (ax P.pt), .n 6 (ay P.pt), .b (ai P.pt)]]) rfl Try.call9 rfl) (fun w h => r8Right_p P _) rfl) ?_
    refine GSteps.cons (gm_val (v := .bool false) rfl (fun _ => rfl) (fun _ => rfl) (fun γ w h => ex_not (r := true) rfl) rfl) ?_
    exact GSteps.nil
  intro _ w6 hb6 _ _
  refine th_r ?_
  have A7 := A2.keep hb6.out
  have A8 := A3.keep hb6.out
  have A9 := A4.keep hb6.out
  have HB10 := below_then HB5 hb6.out
  refine wp_cond_false rfl ?_
  refine wp_skip ?_
  refine th_r ?_
  refine wp_seq (region_m (F := fun _ => ⟨List.toArray ((sv [.n 6 (ax P.pt), .n 6 (ay P.pt), .b (ai P.pt)]) :: (nv 4 [k]) :: (nv 4 [l]) :: (.pointer (some ⟨(γ1 0), 0, none⟩)) :: (.pointer (some ⟨(γ1 1), 0, none⟩)) :: (.pointer (some ⟨(γ1 2), 0, none⟩)) :: (.bool false) :: (.bool true) :: (sv [.n 6 (ax P.pt), .n 6 (ay P.pt), .b (ai P.pt)]) :: (.bool true) :: (.bool false) :: undef :: undef :: undef :: undef :: undef :: undef :: (sv [.n 6 (ax P.pt), .n 6 (ay P.pt), .b (ai P.pt)]) :: (nv 4 [rN]) :: (sv [.n 6 (ax Z1.pt), .n 6 (ay Z1.pt), .b (ai Z1.pt)]) :: (sv [.n 6 (ax Z1.pt), .n 6 (ay Z1.pt), .b (ai Z1.pt)]) :: (.bool true) :: undef :: undef :: undef :: undef :: undef :: undef :: undef :: undef :: undef :: undef :: undef :: undef :: undef :: undef :: undef :: undef :: undef :: undef :: undef :: undef :: undef :: undef :: undef :: undef :: undef :: undef :: undef :: undef :: undef :: undef :: undef :: undef :: undef :: undef :: undef :: undef :: undef :: undef :: undef :: undef :: undef :: undef :: undef :: undef :: undef :: undef :: undef :: undef :: undef :: undef :: undef :: undef :: []), []⟩) 0 (fun _ => 0) (fun _ => 0) (fun _ => 0) (fun _ => []) (fun _ => []) [17, 18, 19, 20, 21, 7] (.inl ⟨rfl, by kernel_rfl⟩) (by kernel_rfl) rfl rfl rfl ?_ ?_)
  · refine GSteps.cons (gm_val (v := sv [.n 6 (ax P.pt), .n 6 (ay P.pt), .b (ai P.pt)]) rfl (fun _ => rfl) (fun _ => rfl) (fun γ w h => ex_loads 0 3 (m := [.n 6 (ax P.pt), .n 6 (ay P.pt), .b (ai P.pt)]) flG1 rfl rfl (A7.keep h.out) rfl rfl) rfl) ?_
    refine GSteps.cons (gm_call (v := nv 4 [rN]) rfl (fun _ => rfl) (fun _ => rfl) (fun γ w => ex_call (vs := []) rfl Try.call22 rfl) (fun w h => r3R_n _) rfl) ?_
    refine GSteps.cons (gm_call (v := sv [.n 6 (ax Z1.pt), .n 6 (ay Z1.pt), .b (ai Z1.pt)]) rfl (fun _ => rfl) (fun _ => rfl) (fun γ w => ex_call (vs := [sv [.n 6 (ax P.pt), .n 6 (ay P.pt), .b (ai P.pt)], nv 4 [rN]]) rfl Try.call21 rfl) (fun w h => onemul_v P Z1 rN rN_B hT _) rfl) ?_
    refine GSteps.cons (gm_call (v := sv [.n 6 (ax Z1.pt), .n 6 (ay Z1.pt), .b (ai Z1.pt)]) rfl (fun _ => rfl) (fun _ => rfl) (fun γ w => ex_call (vs := []) rfl Try.call14 rfl) (fun w h => oneZero_p _) rfl) ?_
    refine GSteps.cons (gm_val (v := .bool true) rfl (fun _ => rfl) (fun _ => rfl) (fun γ w h => ex_eqs gdG1 eqG1 rfl rfl rfl (shG1_of (ax_B Z1.pt) (ay_B Z1.pt)) (shG1_of (ax_B Z1.pt) (ay_B Z1.pt)) true (by simp)) rfl) ?_
    refine GSteps.cons (gm_val (v := .bool true) rfl (fun _ => rfl) (fun _ => rfl) (fun γ w h => ex_assign _) rfl) ?_
    exact GSteps.nil
  intro _ w11 hb11 _ _
  refine th_r ?_
  have A12 := A7.keep hb11.out
  have A13 := A8.keep hb11.out
  have A14 := A9.keep hb11.out
  have HB15 := below_then HB10 hb11.out
  refine wp_seq ?_
  refine wp_seq (region_m (F := fun _ => ⟨List.toArray ((sv [.n 6 (ax P.pt), .n 6 (ay P.pt), .b (ai P.pt)]) :: (nv 4 [k]) :: (nv 4 [l]) :: (.pointer (some ⟨(γ1 0), 0, none⟩)) :: (.pointer (some ⟨(γ1 1), 0, none⟩)) :: (.pointer (some ⟨(γ1 2), 0, none⟩)) :: (.bool false) :: (.bool true) :: (sv [.n 6 (ax P.pt), .n 6 (ay P.pt), .b (ai P.pt)]) :: (.bool true) :: (.bool false) :: undef :: undef :: undef :: undef :: undef :: undef :: (sv [.n 6 (ax P.pt), .n 6 (ay P.pt), .b (ai P.pt)]) :: (nv 4 [rN]) :: (sv [.n 6 (ax Z1.pt), .n 6 (ay Z1.pt), .b (ai Z1.pt)]) :: (sv [.n 6 (ax Z1.pt), .n 6 (ay Z1.pt), .b (ai Z1.pt)]) :: (.bool true) :: (.bool true) :: (sv [.n 6 (ax P.pt), .n 6 (ay P.pt), .b (ai P.pt)]) :: (.bool true) :: (.bool false) :: (.bool false) :: (.bool true) :: (.bool false) :: (.bool false) :: undef :: undef :: undef :: undef :: undef :: undef :: undef :: undef :: undef :: undef :: undef :: undef :: undef :: undef :: undef :: undef :: undef :: undef :: undef :: undef :: undef :: undef :: undef :: undef :: undef :: undef :: undef :: undef :: undef :: undef :: undef :: undef :: undef :: undef :: undef :: undef :: undef :: undef :: undef :: undef :: undef :: undef :: undef :: undef :: []), []⟩) 0 (fun _ => 0) (fun _ => 0) (fun _ => 0) (fun _ => []) (fun _ => []) [22, 23, 24, 25, 26, 27, 28, 29] (.inr ⟨rfl, by kernel_rfl⟩) (by kernel_rfl) rfl rfl rfl ?_ ?_)
  · refine GSteps.cons (gm_val (v := .bool true) rfl (fun _ => rfl) (fun _ => rfl) (fun γ w h => ex_move _) rfl) ?_
    refine GSteps.cons (gm_val (v := sv [.n 6 (ax P.pt), .n 6 (ay P.pt), .b (ai P.pt)]) rfl (fun _ => rfl) (fun _ => rfl) (fun γ w h => ex_loads 0 3 (m := [.n 6 (ax P.pt), .n 6 (ay P.pt), .b (ai P.pt)]) flG1 rfl rfl (A12.keep h.out) rfl rfl) rfl) ?_
    refine GSteps.cons (gm_call (v := .bool true) rfl (fun _ => rfl) (fun _ => rfl) (fun γ w => ex_call (vs := [sv [.n 6 (ax P.pt), .n 6 (ay P.pt), .b (ai P.pt)]]) rfl Try.call12 rfl) (fun w h => oneGroup_q P true ⟨fun _ => hT, fun _ => rfl⟩ _) rfl) ?_
    refine GSteps.cons (gm_val (v := .bool false) rfl (fun _ => rfl) (fun _ => rfl) (fun γ w h => ex_neqb (a := true) (b := true) Try.underlying4 rfl rfl _ rfl) rfl) ?_
    refine GSteps.cons (gm_val (v := .bool false) rfl (fun _ => rfl) (fun _ => rfl) (fun γ w h => ex_move _) rfl) ?_
    refine GSteps.cons (gm_call (v := .bool true) rfl (fun _ => rfl) (fun _ => rfl) (fun γ w => ex_call (vs := []) rfl Try.call10 rfl) (fun w h => onealive_v _) rfl) ?_
    refine GSteps.cons (gm_val (v := .bool false) rfl (fun _ => rfl) (fun _ => rfl) (fun γ w h => ex_not (r := true) rfl) rfl) ?_
    refine GSteps.cons (gm_val (v := .bool false) rfl (fun _ => rfl) (fun _ => rfl) (fun γ w h => ex_pick (r := false) rfl) rfl) ?_
    exact GSteps.nil
  intro _ w16 hb16 _ _
  refine th_r ?_
  have A17 := A12.keep hb16.out
  have A18 := A13.keep hb16.out
  have A19 := A14.keep hb16.out
  have HB20 := below_then HB15 hb16.out
  refine wp_cond_false rfl ?_
  refine wp_skip ?_
  refine th_r ?_
  refine wp_seq ?_
  refine wp_seq (region_m (F := fun _ => ⟨List.toArray ((sv [.n 6 (ax P.pt), .n 6 (ay P.pt), .b (ai P.pt)]) :: (nv 4 [k]) :: (nv 4 [l]) :: (.pointer (some ⟨(γ1 0), 0, none⟩)) :: (.pointer (some ⟨(γ1 1), 0, none⟩)) :: (.pointer (some ⟨(γ1 2), 0, none⟩)) :: (.bool false) :: (.bool true) :: (sv [.n 6 (ax P.pt), .n 6 (ay P.pt), .b (ai P.pt)]) :: (.bool true) :: (.bool false) :: undef :: undef :: undef :: undef :: undef :: undef :: (sv [.n 6 (ax P.pt), .n 6 (ay P.pt), .b (ai P.pt)]) :: (nv 4 [rN]) :: (sv [.n 6 (ax Z1.pt), .n 6 (ay Z1.pt), .b (ai Z1.pt)]) :: (sv [.n 6 (ax Z1.pt), .n 6 (ay Z1.pt), .b (ai Z1.pt)]) :: (.bool true) :: (.bool true) :: (sv [.n 6 (ax P.pt), .n 6 (ay P.pt), .b (ai P.pt)]) :: (.bool true) :: (.bool false) :: (.bool false) :: (.bool true) :: (.bool false) :: (.bool false) :: (.bool true) :: (.bool false) :: undef :: undef :: undef :: undef :: undef :: undef :: undef :: undef :: undef :: undef :: undef :: undef :: undef :: undef :: undef :: undef :: undef :: undef :: undef :: undef :: undef :: undef :: undef :: undef :: undef :: undef :: undef :: undef :: undef :: undef :: undef :: undef :: undef :: undef :: undef :: undef :: undef :: undef :: undef :: undef :: undef :: undef :: []), []⟩) 0 (fun _ => 0) (fun _ => 0) (fun _ => 0) (fun _ => []) (fun _ => []) [30, 31] (.inr ⟨rfl, by kernel_rfl⟩) (by kernel_rfl) rfl rfl rfl ?_ ?_)
  · refine GSteps.cons (gm_val (v := .bool true) rfl (fun _ => rfl) (fun _ => rfl) (fun γ w h => ex_move _) rfl) ?_
    refine GSteps.cons (gm_val (v := .bool false) rfl (fun _ => rfl) (fun _ => rfl) (fun γ w h => ex_not (r := true) rfl) rfl) ?_
    exact GSteps.nil
  intro _ w21 hb21 _ _
  refine th_r ?_
  have A22 := A17.keep hb21.out
  have A23 := A18.keep hb21.out
  have A24 := A19.keep hb21.out
  have HB25 := below_then HB20 hb21.out
  refine wp_cond_false rfl ?_
  refine wp_skip ?_
  refine th_r ?_
  refine wp_seq (region_m (F := fun _ => ⟨List.toArray ((sv [.n 6 (ax P.pt), .n 6 (ay P.pt), .b (ai P.pt)]) :: (nv 4 [k]) :: (nv 4 [l]) :: (.pointer (some ⟨(γ1 0), 0, none⟩)) :: (.pointer (some ⟨(γ1 1), 0, none⟩)) :: (.pointer (some ⟨(γ1 2), 0, none⟩)) :: (.bool true) :: (.bool true) :: (sv [.n 6 (ax P.pt), .n 6 (ay P.pt), .b (ai P.pt)]) :: (.bool true) :: (.bool false) :: undef :: undef :: undef :: undef :: undef :: undef :: (sv [.n 6 (ax P.pt), .n 6 (ay P.pt), .b (ai P.pt)]) :: (nv 4 [rN]) :: (sv [.n 6 (ax Z1.pt), .n 6 (ay Z1.pt), .b (ai Z1.pt)]) :: (sv [.n 6 (ax Z1.pt), .n 6 (ay Z1.pt), .b (ai Z1.pt)]) :: (.bool true) :: (.bool true) :: (sv [.n 6 (ax P.pt), .n 6 (ay P.pt), .b (ai P.pt)]) :: (.bool true) :: (.bool false) :: (.bool false) :: (.bool true) :: (.bool false) :: (.bool false) :: (.bool true) :: (.bool false) :: (sv [.n 6 (ax P.pt), .n 6 (ay P.pt), .b (ai P.pt)]) :: (nv 4 [k]) :: (sv [.n 6 (ax A.pt), .n 6 (ay A.pt), .b (ai A.pt)]) :: (sv [.n 6 (ax P.pt), .n 6 (ay P.pt), .b (ai P.pt)]) :: (nv 4 [k]) :: (nv 4 [c]) :: (sv [.n 6 (ax A.pt), .n 6 (ay A.pt), .b (ai A.pt)]) :: (.bool true) :: (.bool true) :: (sv [.n 6 (ax P.pt), .n 6 (ay P.pt), .b (ai P.pt)]) :: (nv 4 [k]) :: (sv [.n 6 (ax A.pt), .n 6 (ay A.pt), .b (ai A.pt)]) :: (sv [.n 6 (ax P.pt), .n 6 (ay P.pt), .b (ai P.pt)]) :: (nv 4 [l]) :: (sv [.n 6 (ax B.pt), .n 6 (ay B.pt), .b (ai B.pt)]) :: (sv [.n 6 (ax G.pt), .n 6 (ay G.pt), .b (ai G.pt)]) :: (sv [.n 6 (ax P.pt), .n 6 (ay P.pt), .b (ai P.pt)]) :: (nv 4 [k]) :: (nv 4 [l]) :: (nv 4 [d]) :: (sv [.n 6 (ax G.pt), .n 6 (ay G.pt), .b (ai G.pt)]) :: (.bool true) :: (.bool true) :: (.bool true) :: (sv [.n 6 (ax P.pt), .n 6 (ay P.pt), .b (ai P.pt)]) :: (nv 4 [k]) :: (sv [.n 6 (ax A.pt), .n 6 (ay A.pt), .b (ai A.pt)]) :: (nv 4 [l]) :: (sv [.n 6 (ax H.pt), .n 6 (ay H.pt), .b (ai H.pt)]) :: (sv [.n 6 (ax P.pt), .n 6 (ay P.pt), .b (ai P.pt)]) :: (nv 4 [k]) :: (nv 4 [l]) :: (nv 4 [e]) :: (sv [.n 6 (ax H.pt), .n 6 (ay H.pt), .b (ai H.pt)]) :: (.bool true) :: (.bool true) :: (.bool true) :: (sv [.n 6 (ax P.pt), .n 6 (ay P.pt), .b (ai P.pt)]) :: (nv 4 [k]) :: (sv [.n 6 (ax A.pt), .n 6 (ay A.pt), .b (ai A.pt)]) :: (.bool true) :: (.bool true) :: []), []⟩) 0 (fun _ => 0) (fun _ => 0) (fun _ => 0) (fun _ => []) (fun _ => []) [32, 33, 34, 35, 36, 37, 38, 39, 40, 41, 42, 43, 44, 45, 46, 47, 48, 49, 50, 51, 52, 53, 54, 55, 56, 57, 58, 59, 60, 61, 62, 63, 64, 65, 66, 67, 68, 69, 70, 71, 72, 73, 6] (.inl ⟨rfl, by kernel_rfl⟩) (by kernel_rfl) rfl rfl rfl ?_ ?_)
  · refine GSteps.cons (gm_val (v := sv [.n 6 (ax P.pt), .n 6 (ay P.pt), .b (ai P.pt)]) rfl (fun _ => rfl) (fun _ => rfl) (fun γ w h => ex_loads 0 3 (m := [.n 6 (ax P.pt), .n 6 (ay P.pt), .b (ai P.pt)]) flG1 rfl rfl (A22.keep h.out) rfl rfl) rfl) ?_
    refine GSteps.cons (gm_val (v := nv 4 [k]) rfl (fun _ => rfl) (fun _ => rfl) (fun γ w h => ex_loadsn (K := 4) 0 1 (m := [k]) flFr rfl rfl (A23.keep h.out) rfl rfl) rfl) ?_
    refine GSteps.cons (gm_call (v := sv [.n 6 (ax A.pt), .n 6 (ay A.pt), .b (ai A.pt)]) rfl (fun _ => rfl) (fun _ => rfl) (fun γ w => ex_call (vs := [sv [.n 6 (ax P.pt), .n 6 (ay P.pt), .b (ai P.pt)], nv 4 [k]]) rfl Try.call21 rfl) (fun w h => onemul_v P A k hk hA.symm _) rfl) ?_
    refine GSteps.cons (gm_val (v := sv [.n 6 (ax P.pt), .n 6 (ay P.pt), .b (ai P.pt)]) rfl (fun _ => rfl) (fun _ => rfl) (fun γ w h => ex_loads 0 3 (m := [.n 6 (ax P.pt), .n 6 (ay P.pt), .b (ai P.pt)]) flG1 rfl rfl (A22.keep h.out) rfl rfl) rfl) ?_
    refine GSteps.cons (gm_val (v := nv 4 [k]) rfl (fun _ => rfl) (fun _ => rfl) (fun γ w h => ex_loadsn (K := 4) 0 1 (m := [k]) flFr rfl rfl (A23.keep h.out) rfl rfl) rfl) ?_
    refine GSteps.cons (gm_call (v := nv 4 [c]) rfl (fun _ => rfl) (fun _ => rfl) (fun γ w => ex_call (vs := [nv 4 [k]]) rfl Try.call23 rfl) (fun w h => frClean_n k _ hk c hc) rfl) ?_
    refine GSteps.cons (gm_call (v := sv [.n 6 (ax A.pt), .n 6 (ay A.pt), .b (ai A.pt)]) rfl (fun _ => rfl) (fun _ => rfl) (fun γ w => ex_call (vs := [sv [.n 6 (ax P.pt), .n 6 (ay P.pt), .b (ai P.pt)], nv 4 [c]]) rfl Try.call21 rfl) (fun w h => onemul_v P A c (hc ▸ fr_modB _) (by rw [hA, hc]; exact EP.times_mod C1 hT k) _) rfl) ?_
    refine GSteps.cons (gm_val (v := .bool true) rfl (fun _ => rfl) (fun _ => rfl) (fun γ w h => ex_eqs gdG1 eqG1 rfl rfl rfl (shG1_of (ax_B A.pt) (ay_B A.pt)) (shG1_of (ax_B A.pt) (ay_B A.pt)) true (by simp)) rfl) ?_
    refine GSteps.cons (gm_val (v := .bool true) rfl (fun _ => rfl) (fun _ => rfl) (fun γ w h => ex_move _) rfl) ?_
    refine GSteps.cons (gm_val (v := sv [.n 6 (ax P.pt), .n 6 (ay P.pt), .b (ai P.pt)]) rfl (fun _ => rfl) (fun _ => rfl) (fun γ w h => ex_loads 0 3 (m := [.n 6 (ax P.pt), .n 6 (ay P.pt), .b (ai P.pt)]) flG1 rfl rfl (A22.keep h.out) rfl rfl) rfl) ?_
    refine GSteps.cons (gm_val (v := nv 4 [k]) rfl (fun _ => rfl) (fun _ => rfl) (fun γ w h => ex_loadsn (K := 4) 0 1 (m := [k]) flFr rfl rfl (A23.keep h.out) rfl rfl) rfl) ?_
    refine GSteps.cons (gm_call (v := sv [.n 6 (ax A.pt), .n 6 (ay A.pt), .b (ai A.pt)]) rfl (fun _ => rfl) (fun _ => rfl) (fun γ w => ex_call (vs := [sv [.n 6 (ax P.pt), .n 6 (ay P.pt), .b (ai P.pt)], nv 4 [k]]) rfl Try.call21 rfl) (fun w h => onemul_v P A k hk hA.symm _) rfl) ?_
    refine GSteps.cons (gm_val (v := sv [.n 6 (ax P.pt), .n 6 (ay P.pt), .b (ai P.pt)]) rfl (fun _ => rfl) (fun _ => rfl) (fun γ w h => ex_loads 0 3 (m := [.n 6 (ax P.pt), .n 6 (ay P.pt), .b (ai P.pt)]) flG1 rfl rfl (A22.keep h.out) rfl rfl) rfl) ?_
    refine GSteps.cons (gm_val (v := nv 4 [l]) rfl (fun _ => rfl) (fun _ => rfl) (fun γ w h => ex_loadsn (K := 4) 0 1 (m := [l]) flFr rfl rfl (A24.keep h.out) rfl rfl) rfl) ?_
    refine GSteps.cons (gm_call (v := sv [.n 6 (ax B.pt), .n 6 (ay B.pt), .b (ai B.pt)]) rfl (fun _ => rfl) (fun _ => rfl) (fun γ w => ex_call (vs := [sv [.n 6 (ax P.pt), .n 6 (ay P.pt), .b (ai P.pt)], nv 4 [l]]) rfl Try.call21 rfl) (fun w h => onemul_v P B l hl hB.symm _) rfl) ?_
    refine GSteps.cons (gm_call (v := sv [.n 6 (ax G.pt), .n 6 (ay G.pt), .b (ai G.pt)]) rfl (fun _ => rfl) (fun _ => rfl) (fun γ w => ex_call (vs := [sv [.n 6 (ax A.pt), .n 6 (ay A.pt), .b (ai A.pt)], sv [.n 6 (ax B.pt), .n 6 (ay B.pt), .b (ai B.pt)]]) rfl Try.call19 rfl) (fun w h => oneadd_v A B G (by rw [hA, hB, hG, EP.times_add]) _) rfl) ?_
    refine GSteps.cons (gm_val (v := sv [.n 6 (ax P.pt), .n 6 (ay P.pt), .b (ai P.pt)]) rfl (fun _ => rfl) (fun _ => rfl) (fun γ w h => ex_loads 0 3 (m := [.n 6 (ax P.pt), .n 6 (ay P.pt), .b (ai P.pt)]) flG1 rfl rfl (A22.keep h.out) rfl rfl) rfl) ?_
    refine GSteps.cons (gm_val (v := nv 4 [k]) rfl (fun _ => rfl) (fun _ => rfl) (fun γ w h => ex_loadsn (K := 4) 0 1 (m := [k]) flFr rfl rfl (A23.keep h.out) rfl rfl) rfl) ?_
    refine GSteps.cons (gm_val (v := nv 4 [l]) rfl (fun _ => rfl) (fun _ => rfl) (fun γ w h => ex_loadsn (K := 4) 0 1 (m := [l]) flFr rfl rfl (A24.keep h.out) rfl rfl) rfl) ?_
    refine GSteps.cons (gm_call (v := nv 4 [d]) rfl (fun _ => rfl) (fun _ => rfl) (fun γ w => ex_call (vs := [nv 4 [k], nv 4 [l]]) rfl Try.call24 rfl) (fun w h => frAdd_n k l _ hk hl d hd) rfl) ?_
    refine GSteps.cons (gm_call (v := sv [.n 6 (ax G.pt), .n 6 (ay G.pt), .b (ai G.pt)]) rfl (fun _ => rfl) (fun _ => rfl) (fun γ w => ex_call (vs := [sv [.n 6 (ax P.pt), .n 6 (ay P.pt), .b (ai P.pt)], nv 4 [d]]) rfl Try.call21 rfl) (fun w h => onemul_v P G d (hd ▸ fr_modB _) (by rw [hG, hd]; exact EP.times_mod C1 hT (k + l)) _) rfl) ?_
    refine GSteps.cons (gm_val (v := .bool true) rfl (fun _ => rfl) (fun _ => rfl) (fun γ w h => ex_eqs gdG1 eqG1 rfl rfl rfl (shG1_of (ax_B G.pt) (ay_B G.pt)) (shG1_of (ax_B G.pt) (ay_B G.pt)) true (by simp)) rfl) ?_
    refine GSteps.cons (gm_val (v := .bool true) rfl (fun _ => rfl) (fun _ => rfl) (fun γ w h => ex_pick (r := true) rfl) rfl) ?_
    refine GSteps.cons (gm_val (v := .bool true) rfl (fun _ => rfl) (fun _ => rfl) (fun γ w h => ex_move _) rfl) ?_
    refine GSteps.cons (gm_val (v := sv [.n 6 (ax P.pt), .n 6 (ay P.pt), .b (ai P.pt)]) rfl (fun _ => rfl) (fun _ => rfl) (fun γ w h => ex_loads 0 3 (m := [.n 6 (ax P.pt), .n 6 (ay P.pt), .b (ai P.pt)]) flG1 rfl rfl (A22.keep h.out) rfl rfl) rfl) ?_
    refine GSteps.cons (gm_val (v := nv 4 [k]) rfl (fun _ => rfl) (fun _ => rfl) (fun γ w h => ex_loadsn (K := 4) 0 1 (m := [k]) flFr rfl rfl (A23.keep h.out) rfl rfl) rfl) ?_
    refine GSteps.cons (gm_call (v := sv [.n 6 (ax A.pt), .n 6 (ay A.pt), .b (ai A.pt)]) rfl (fun _ => rfl) (fun _ => rfl) (fun γ w => ex_call (vs := [sv [.n 6 (ax P.pt), .n 6 (ay P.pt), .b (ai P.pt)], nv 4 [k]]) rfl Try.call21 rfl) (fun w h => onemul_v P A k hk hA.symm _) rfl) ?_
    refine GSteps.cons (gm_val (v := nv 4 [l]) rfl (fun _ => rfl) (fun _ => rfl) (fun γ w h => ex_loadsn (K := 4) 0 1 (m := [l]) flFr rfl rfl (A24.keep h.out) rfl rfl) rfl) ?_
    refine GSteps.cons (gm_call (v := sv [.n 6 (ax H.pt), .n 6 (ay H.pt), .b (ai H.pt)]) rfl (fun _ => rfl) (fun _ => rfl) (fun γ w => ex_call (vs := [sv [.n 6 (ax A.pt), .n 6 (ay A.pt), .b (ai A.pt)], nv 4 [l]]) rfl Try.call21 rfl) (fun w h => onemul_v A H l hl (by rw [hA, hH, Nat.mul_comm, EP.times_mul]) _) rfl) ?_
    refine GSteps.cons (gm_val (v := sv [.n 6 (ax P.pt), .n 6 (ay P.pt), .b (ai P.pt)]) rfl (fun _ => rfl) (fun _ => rfl) (fun γ w h => ex_loads 0 3 (m := [.n 6 (ax P.pt), .n 6 (ay P.pt), .b (ai P.pt)]) flG1 rfl rfl (A22.keep h.out) rfl rfl) rfl) ?_
    refine GSteps.cons (gm_val (v := nv 4 [k]) rfl (fun _ => rfl) (fun _ => rfl) (fun γ w h => ex_loadsn (K := 4) 0 1 (m := [k]) flFr rfl rfl (A23.keep h.out) rfl rfl) rfl) ?_
    refine GSteps.cons (gm_val (v := nv 4 [l]) rfl (fun _ => rfl) (fun _ => rfl) (fun γ w h => ex_loadsn (K := 4) 0 1 (m := [l]) flFr rfl rfl (A24.keep h.out) rfl rfl) rfl) ?_
    refine GSteps.cons (gm_call (v := nv 4 [e]) rfl (fun _ => rfl) (fun _ => rfl) (fun γ w => ex_call (vs := [nv 4 [k], nv 4 [l]]) rfl Try.call25 rfl) (fun w h => frMul_n k l _ hk hl e he) rfl) ?_
    refine GSteps.cons (gm_call (v := sv [.n 6 (ax H.pt), .n 6 (ay H.pt), .b (ai H.pt)]) rfl (fun _ => rfl) (fun _ => rfl) (fun γ w => ex_call (vs := [sv [.n 6 (ax P.pt), .n 6 (ay P.pt), .b (ai P.pt)], nv 4 [e]]) rfl Try.call21 rfl) (fun w h => onemul_v P H e (he ▸ fr_modB _) (by rw [hH, he]; exact EP.times_mod C1 hT (k * l)) _) rfl) ?_
    refine GSteps.cons (gm_val (v := .bool true) rfl (fun _ => rfl) (fun _ => rfl) (fun γ w h => ex_eqs gdG1 eqG1 rfl rfl rfl (shG1_of (ax_B H.pt) (ay_B H.pt)) (shG1_of (ax_B H.pt) (ay_B H.pt)) true (by simp)) rfl) ?_
    refine GSteps.cons (gm_val (v := .bool true) rfl (fun _ => rfl) (fun _ => rfl) (fun γ w h => ex_pick (r := true) rfl) rfl) ?_
    refine GSteps.cons (gm_val (v := .bool true) rfl (fun _ => rfl) (fun _ => rfl) (fun γ w h => ex_move _) rfl) ?_
    refine GSteps.cons (gm_val (v := sv [.n 6 (ax P.pt), .n 6 (ay P.pt), .b (ai P.pt)]) rfl (fun _ => rfl) (fun _ => rfl) (fun γ w h => ex_loads 0 3 (m := [.n 6 (ax P.pt), .n 6 (ay P.pt), .b (ai P.pt)]) flG1 rfl rfl (A22.keep h.out) rfl rfl) rfl) ?_
    refine GSteps.cons (gm_val (v := nv 4 [k]) rfl (fun _ => rfl) (fun _ => rfl) (fun γ w h => ex_loadsn (K := 4) 0 1 (m := [k]) flFr rfl rfl (A23.keep h.out) rfl rfl) rfl) ?_
    refine GSteps.cons (gm_call (v := sv [.n 6 (ax A.pt), .n 6 (ay A.pt), .b (ai A.pt)]) rfl (fun _ => rfl) (fun _ => rfl) (fun γ w => ex_call (vs := [sv [.n 6 (ax P.pt), .n 6 (ay P.pt), .b (ai P.pt)], nv 4 [k]]) rfl Try.call21 rfl) (fun w h => onemul_v P A k hk hA.symm _) rfl) ?_
    refine GSteps.cons (gm_call (v := .bool true) rfl (fun _ => rfl) (fun _ => rfl) (fun γ w => ex_call (vs := [sv [.n 6 (ax A.pt), .n 6 (ay A.pt), .b (ai A.pt)]]) rfl Try.call12 rfl) (fun w h => oneGroup_q A true ⟨fun _ => (by rw [hA, ← EP.times_mul, Nat.mul_comm, EP.times_mul, hT]; exact EP.times_zero C1 k), fun _ => rfl⟩ _) rfl) ?_
    refine GSteps.cons (gm_val (v := .bool true) rfl (fun _ => rfl) (fun _ => rfl) (fun γ w h => ex_pick (r := true) rfl) rfl) ?_
    refine GSteps.cons (gm_val (v := .bool true) rfl (fun _ => rfl) (fun _ => rfl) (fun γ w h => ex_assign _) rfl) ?_
    exact GSteps.nil
  intro _ w26 hb26 _ _
  refine th_r ?_
  have A27 := A22.keep hb26.out
  have A28 := A23.keep hb26.out
  have A29 := A24.keep hb26.out
  have HB30 := below_then HB25 hb26.out
  exact wp_ret (bodyPost_ret (ret1 Try.results7 (res_tmp rfl)) rfl ⟨rfl, HB30⟩)

theorem oneOrder_v (x : Nat) (y : Nat) (i : Bool) (hx : x < fpB) (hy : y < fpB) (k l : Nat) (hk : k < frB) (hl : l < frB) (w : World) :
    Calls Try.prog 7 #[sv [.n 6 x, .n 6 y, .b i], nv 4 [k], nv 4 [l]] w (Is (.bool true) w) := by
  by_cases o : RawOk x y i
  · obtain ⟨P, rfl, rfl, rfl⟩ := o
    by_cases hT : EP.times C1 rN P = Z1
    · exact oneOrder_1 P hT k l hk hl w
    · exact oneOrder_0 P _ rfl hT k l w
  · exact oneOrder_n x y i hx hy o k l w
end
end Go.Proofs.Yticglgegfebnjaa

/- What is proved here: the laws of package one on how often a point is taken. -/
import Derived.Test.YticglgegfebnjaaLwOne1
import Derived.Test.YticglgegfebnjaaNumFr
import Derived.Test.YticglgegfebnjaaRefC
import Derived.Test.YticglgegfebnjaaMontFns
import Derived.Test.YticglgegfebnjaaPrime
import Derived.BigQuiet
import Derived.Deep.CutBlock
import Derived.Deep.RegionHeld3
namespace Go.Proofs.Yticglgegfebnjaa
open Go.RowKit Cv

set_option maxRecDepth 20000 in
set_option maxHeartbeats 4000000 in
theorem oneTimes_n (x : Nat) (y : Nat) (i : Bool) (hx : x < fpB) (hy : y < fpB) (h0 : ¬ RawOk x y i) (n s t : Int) (w : World) :
    Calls Try.prog 6 #[sv [.n 6 x, .n 6 y, .b i], .int .i64 n, .int .u32 s, .int .u32 t] w (Is (.bool true) w) := by
  go_enter Try.func6, Try.ntmps6
  refine wp_seq (region_m (F := fun γ => ⟨List.toArray ((sv [.n 6 x, .n 6 y, .b i]) :: (.int .i64 n) :: (.int .u32 s) :: (.int .u32 t) :: (.pointer (some ⟨γ 0, 0, none⟩)) :: undef :: undef :: undef :: (.bool false) :: undef :: undef :: undef :: undef :: undef :: undef :: undef :: undef :: undef :: undef :: undef :: undef :: undef :: undef :: undef :: undef :: undef :: undef :: undef :: undef :: undef :: undef :: undef :: undef :: undef :: undef :: undef :: undef :: undef :: undef :: undef :: undef :: undef :: undef :: undef :: undef :: undef :: undef :: undef :: undef :: undef :: undef :: undef :: undef :: undef :: undef :: undef :: undef :: undef :: undef :: undef :: undef :: undef :: undef :: undef :: undef :: undef :: undef :: undef :: undef :: undef :: undef :: undef :: undef :: undef :: undef :: undef :: undef :: undef :: undef :: undef :: undef :: undef :: undef :: undef :: undef :: undef :: undef :: undef :: undef :: undef :: undef :: undef :: undef :: undef :: []), []⟩) 1 (fun _ => 26) (fun _ => 0) (fun _ => 0) (fun _ => segs [.n 6 x, .n 6 y, .b i]) (fun _ => segs [.n 6 x, .n 6 y, .b i]) [4, 8] (.inr ⟨rfl, by kernel_rfl⟩) (by kernel_rfl) rfl rfl rfl ?_ ?_)
  · refine GSteps.cons (gm_box 0 rfl (fun _ => rfl) (fun _ _ => rfl) (fun γ w h => ex_boxs (l := [.n 6 x, .n 6 y, .b i]) rfl) rfl rfl rfl) ?_
    refine GSteps.cons (gm_val (v := .bool false) rfl (fun _ => rfl) (fun _ => rfl) (fun γ w h => ex_assign _) rfl) ?_
    exact GSteps.nil
  intro γ1 w1 hb1 hB1 _
  refine th_r ?_
  have A2 : SB 26 w1 (γ1 0) [.n 6 x, .n 6 y, .b i] := (hB1 0 (by decide)).2
  have le2 := (hB1 0 (by decide)).1
  have HB3 := below_then (Below.refl w.heap.size w) hb1.out
  refine wp_seq ?_
  refine wp_seq (region_m (F := fun _ => ⟨List.toArray ((sv [.n 6 x, .n 6 y, .b i]) :: (.int .i64 n) :: (.int .u32 s) :: (.int .u32 t) :: (.pointer (some ⟨(γ1 0), 0, none⟩)) :: undef :: undef :: undef :: (.bool false) :: undef :: undef :: undef :: undef :: undef :: (sv [.n 6 x, .n 6 y, .b i]) :: (.bool false) :: (.bool true) :: undef :: undef :: undef :: undef :: undef :: undef :: undef :: undef :: undef :: undef :: undef :: undef :: undef :: undef :: undef :: undef :: undef :: undef :: undef :: undef :: undef :: undef :: undef :: undef :: undef :: undef :: undef :: undef :: undef :: undef :: undef :: undef :: undef :: undef :: undef :: undef :: undef :: undef :: undef :: undef :: undef :: undef :: undef :: undef :: undef :: undef :: undef :: undef :: undef :: undef :: undef :: undef :: undef :: undef :: undef :: undef :: undef :: undef :: undef :: undef :: undef :: undef :: undef :: undef :: undef :: undef :: undef :: undef :: undef :: undef :: undef :: undef :: undef :: undef :: undef :: undef :: undef :: []), []⟩) 0 (fun _ => 0) (fun _ => 0) (fun _ => 0) (fun _ => []) (fun _ => []) [14, 15, 16] (.inr ⟨rfl, by kernel_rfl⟩) (by kernel_rfl) rfl rfl rfl ?_ ?_)
  · refine GSteps.cons (gm_val (v := sv [.n 6 x, .n 6 y, .b i]) rfl (fun _ => rfl) (fun _ => rfl) (fun γ w h => ex_loads 0 3 (m := [.n 6 x, .n 6 y, .b i]) flG1 rfl rfl (A2.keep h.out) rfl rfl) rfl) ?_
    refine GSteps.cons (gm_call (v := .bool false) rfl (fun _ => rfl) (fun _ => rfl) (fun γ w => ex_call (vs := [sv [.n 6 x, .n 6 y, .b i]]) rfl Try.call9 rfl) (fun w h => r8Right_no hx hy h0 _) rfl) ?_
    refine GSteps.cons (gm_val (v := .bool true) rfl (fun _ => rfl) (fun _ => rfl) (fun γ w h => ex_not (r := false) rfl) rfl) ?_
    exact GSteps.nil
  intro _ w4 hb4 _ _
  refine th_r ?_
  have A5 := A2.keep hb4.out
  have HB6 := below_then HB3 hb4.out
  refine wp_cond_true rfl ?_
  refine wp_seq (region_m (F := fun γ => ⟨List.toArray ((sv [.n 6 x, .n 6 y, .b i]) :: (.int .i64 n) :: (.int .u32 s) :: (.int .u32 t) :: (.pointer (some ⟨(γ1 0), 0, none⟩)) :: undef :: undef :: undef :: (.bool false) :: (.pointer (some ⟨γ 0, 0, none⟩)) :: (.int .i64 30) :: undef :: undef :: undef :: (sv [.n 6 x, .n 6 y, .b i]) :: (.bool false) :: (.bool true) :: (.tuple #[sv [.n 6 0, .n 6 0, .b false], .int .i64 30]) :: (sv [.n 6 x, .n 6 y, .b i]) :: (nv 4 [1]) :: (.tuple #[sv [.n 6 0, .n 6 0, .b false], .int .i64 30]) :: (sv [.n 6 0, .n 6 0, .b false]) :: (.int .i64 30) :: undef :: undef :: undef :: undef :: undef :: undef :: undef :: undef :: undef :: undef :: undef :: undef :: undef :: undef :: undef :: undef :: undef :: undef :: undef :: undef :: undef :: undef :: undef :: undef :: undef :: undef :: undef :: undef :: undef :: undef :: undef :: undef :: undef :: undef :: undef :: undef :: undef :: undef :: undef :: undef :: undef :: undef :: undef :: undef :: undef :: undef :: undef :: undef :: undef :: undef :: undef :: undef :: undef :: undef :: undef :: undef :: undef :: undef :: undef :: undef :: undef :: undef :: undef :: undef :: undef :: undef :: undef :: undef :: undef :: undef :: undef :: []), []⟩) 1 (fun _ => 26) (fun _ => 6) (fun _ => 7) (fun _ => segs [.n 6 0, .n 6 0, .b false]) (fun _ => segs [.n 6 0, .n 6 0, .b false]) [18, 19, 20, 17, 21, 22, 9, 10] (.inr ⟨rfl, by kernel_rfl⟩) (by kernel_rfl) rfl rfl rfl ?_ ?_)
  · refine GSteps.cons (gm_val (v := sv [.n 6 x, .n 6 y, .b i]) rfl (fun _ => rfl) (fun _ => rfl) (fun γ w h => ex_loads 0 3 (m := [.n 6 x, .n 6 y, .b i]) flG1 rfl rfl (A5.keep h.out) rfl rfl) rfl) ?_
    refine GSteps.cons (gm_val (v := nv 4 [1]) rfl (fun _ => rfl) (fun _ => rfl) (fun γ w h => ex_limb4 (e := 1) (by decide) rfl) rfl) ?_
    refine GSteps.cons (gm_call (v := .tuple #[sv [.n 6 0, .n 6 0, .b false], .int .i64 30]) rfl (fun _ => rfl) (fun _ => rfl) (fun γ w => ex_call (vs := [sv [.n 6 x, .n 6 y, .b i], nv 4 [1]]) rfl Try.call20 rfl) (fun w h => oneMul_n x y i hx hy h0 1 _) rfl) ?_
    refine GSteps.cons (gm_val (v := .tuple #[sv [.n 6 0, .n 6 0, .b false], .int .i64 30]) rfl (fun _ => rfl) (fun _ => rfl) (fun γ w h => ex_move _) rfl) ?_
    refine GSteps.cons (gm_val (v := sv [.n 6 0, .n 6 0, .b false]) rfl (fun _ => rfl) (fun _ => rfl) (fun γ w h => ex_extract (vs := [sv [.n 6 0, .n 6 0, .b false], .int .i64 30]) rfl rfl) rfl) ?_
    refine GSteps.cons (gm_val (v := .int .i64 30) rfl (fun _ => rfl) (fun _ => rfl) (fun γ w h => ex_extract (vs := [sv [.n 6 0, .n 6 0, .b false], .int .i64 30]) rfl rfl) rfl) ?_
    refine GSteps.cons (gm_new 0 rfl (fun _ => rfl) (fun _ _ => rfl) (fun γ w => ex_allocs (l := [.n 6 0, .n 6 0, .b false]) zG1) rfl (by kernel_rfl)) ?_
    refine GSteps.cons (gm_store 0 rfl rfl (fun _ => rfl) (len_segs (l := [.n 6 0, .n 6 0, .b false]) (l' := [.n 6 0, .n 6 0, .b false]) rfl) (fun γ w h => ex_stores 0 3 (l := [.n 6 0, .n 6 0, .b false]) (m := [.n 6 0, .n 6 0, .b false]) flG1.2 rfl rfl rfl rfl h rfl rfl) rfl rfl (by kernel_rfl)) ?_
    refine GSteps.cons (gm_val (v := .int .i64 30) rfl (fun _ => rfl) (fun _ => rfl) (fun γ w h => ex_assign _) rfl) ?_
    exact GSteps.nil
  intro γ7 w7 hb7 hB7 _
  refine th_r ?_
  have A8 := A5.keep hb7.out
  have A9 : SB 26 w7 (γ7 0) [.n 6 0, .n 6 0, .b false] := (hB7 0 (by decide)).2
  have le9 := (hB7 0 (by decide)).1
  have HB10 := below_then HB6 hb7.out
  refine wp_seq (region_m (F := fun _ => ⟨List.toArray ((sv [.n 6 x, .n 6 y, .b i]) :: (.int .i64 n) :: (.int .u32 s) :: (.int .u32 t) :: (.pointer (some ⟨(γ1 0), 0, none⟩)) :: undef :: undef :: undef :: (.bool true) :: (.pointer (some ⟨(γ7 0), 0, none⟩)) :: (.int .i64 30) :: undef :: undef :: undef :: (sv [.n 6 x, .n 6 y, .b i]) :: (.bool false) :: (.bool true) :: (.tuple #[sv [.n 6 0, .n 6 0, .b false], .int .i64 30]) :: (sv [.n 6 x, .n 6 y, .b i]) :: (nv 4 [1]) :: (.tuple #[sv [.n 6 0, .n 6 0, .b false], .int .i64 30]) :: (sv [.n 6 0, .n 6 0, .b false]) :: (.int .i64 30) :: (.bool true) :: (.bool true) :: (.int .i64 30) :: (.bool true) :: (.bool true) :: (.bool true) :: (sv [.n 6 0, .n 6 0, .b false]) :: (sv [.n 6 0, .n 6 0, .b false]) :: (.bool true) :: (.bool true) :: undef :: undef :: undef :: undef :: undef :: undef :: undef :: undef :: undef :: undef :: undef :: undef :: undef :: undef :: undef :: undef :: undef :: undef :: undef :: undef :: undef :: undef :: undef :: undef :: undef :: undef :: undef :: undef :: undef :: undef :: undef :: undef :: undef :: undef :: undef :: undef :: undef :: undef :: undef :: undef :: undef :: undef :: undef :: undef :: undef :: undef :: undef :: undef :: undef :: undef :: undef :: undef :: undef :: undef :: undef :: undef :: undef :: undef :: undef :: undef :: undef :: []), []⟩) 0 (fun _ => 0) (fun _ => 0) (fun _ => 0) (fun _ => []) (fun _ => []) [23, 24, 25, 26, 27, 28, 29, 30, 31, 32, 8] (.inr ⟨rfl, by kernel_rfl⟩) (by kernel_rfl) rfl rfl rfl ?_ ?_)
  · refine GSteps.cons (gm_call (v := .bool true) rfl (fun _ => rfl) (fun _ => rfl) (fun γ w => ex_call (vs := []) rfl Try.call10 rfl) (fun w h => onealive_v _) rfl) ?_
    refine GSteps.cons (gm_val (v := .bool true) rfl (fun _ => rfl) (fun _ => rfl) (fun γ w h => ex_move _) rfl) ?_
    refine GSteps.cons (gm_val (v := .int .i64 30) rfl (fun _ => rfl) (fun _ => rfl) (fun γ w h => ex_move _) rfl) ?_
    refine GSteps.cons (gm_val (v := .bool true) rfl (fun _ => rfl) (fun _ => rfl) (fun γ w h => ex_eqi rfl rfl _ rfl) rfl) ?_
    refine GSteps.cons (gm_val (v := .bool true) rfl (fun _ => rfl) (fun _ => rfl) (fun γ w h => ex_pick (r := true) rfl) rfl) ?_
    refine GSteps.cons (gm_val (v := .bool true) rfl (fun _ => rfl) (fun _ => rfl) (fun γ w h => ex_move _) rfl) ?_
    refine GSteps.cons (gm_val (v := sv [.n 6 0, .n 6 0, .b false]) rfl (fun _ => rfl) (fun _ => rfl) (fun γ w h => ex_loads 0 3 (m := [.n 6 0, .n 6 0, .b false]) flG1 rfl rfl (A9.keep h.out) rfl rfl) rfl) ?_
    refine GSteps.cons (gm_val (v := sv [.n 6 0, .n 6 0, .b false]) rfl (fun _ => rfl) (fun _ => rfl) (fun γ w h => ex_builds stG1 (l := [.n 6 0, .n 6 0, .b false]) (vs := []) rfl rfl) rfl) ?_
    refine GSteps.cons (gm_val (v := .bool true) rfl (fun _ => rfl) (fun _ => rfl) (fun γ w h => ex_eqs gdG1 eqG1 rfl rfl rfl (shG1_of zero_B zero_B) (shG1_of zero_B zero_B) true (by simp)) rfl) ?_
    refine GSteps.cons (gm_val (v := .bool true) rfl (fun _ => rfl) (fun _ => rfl) (fun γ w h => ex_pick (r := true) rfl) rfl) ?_
    refine GSteps.cons (gm_val (v := .bool true) rfl (fun _ => rfl) (fun _ => rfl) (fun γ w h => ex_assign _) rfl) ?_
    exact GSteps.nil
  intro _ w11 hb11 _ _
  refine th_r ?_
  have A12 := A8.keep hb11.out
  have A13 := A9.keep hb11.out
  have HB14 := below_then HB10 hb11.out
  exact wp_ret (th_ret (bodyPost_ret (ret1 Try.results6 (res_tmp rfl)) rfl ⟨rfl, HB14⟩))

theorem clamp40 (n : Int) : ∃ m : Nat, min (max n 0) 40 = (m : Int) ∧ m ≤ 40 := ⟨(min (max n 0) 40).toNat, by omega, by omega⟩
theorem u64_frB : 18446744073709551616 < frB := by decide +kernel

set_option maxRecDepth 20000 in
set_option maxHeartbeats 4000000 in
theorem oneTimes_p (P : E1) (n : Int) (s t : Nat) (hs4 : s < 4294967296) (ht4 : t < 4294967296) (w : World) :
    Calls Try.prog 6 #[sv [.n 6 (ax P.pt), .n 6 (ay P.pt), .b (ai P.pt)], .int .i64 n, .int .u32 (s : Int), .int .u32 (t : Int)] w (Is (.bool true) w) := by
  obtain ⟨m, hm, hm40⟩ := clamp40 n
  have hst := u32_mul hs4 ht4
  obtain ⟨M, hM⟩ : ∃ M : Nat → E1, ∀ j, M j = EP.times C1 j P := ⟨fun j => EP.times C1 j P, fun _ => rfl⟩
  have hM0 : M 0 = Z1 := hM 0
  have hMs : ∀ j, (M j).add C1 P = M (j + 1) := fun j => by rw [hM, hM]; rfl
  obtain ⟨X, hX⟩ : ∃ q_ : E1, q_ = EP.times C1 s P := ⟨_, rfl⟩
  obtain ⟨Y, hY⟩ : ∃ q_ : E1, q_ = EP.times C1 t P := ⟨_, rfl⟩
  obtain ⟨U, hU⟩ : ∃ q_ : E1, q_ = EP.times C1 (s + t) P := ⟨_, rfl⟩
  obtain ⟨V, hV⟩ : ∃ q_ : E1, q_ = EP.times C1 (s * t) P := ⟨_, rfl⟩
  go_enter Try.func6, Try.ntmps6
  refine wp_seq (region_m (F := fun γ => ⟨List.toArray ((sv [.n 6 (ax P.pt), .n 6 (ay P.pt), .b (ai P.pt)]) :: (.int .i64 n) :: (.int .u32 (s : Int)) :: (.int .u32 (t : Int)) :: (.pointer (some ⟨γ 0, 0, none⟩)) :: undef :: undef :: undef :: (.bool false) :: undef :: undef :: undef :: undef :: undef :: undef :: undef :: undef :: undef :: undef :: undef :: undef :: undef :: undef :: undef :: undef :: undef :: undef :: undef :: undef :: undef :: undef :: undef :: undef :: undef :: undef :: undef :: undef :: undef :: undef :: undef :: undef :: undef :: undef :: undef :: undef :: undef :: undef :: undef :: undef :: undef :: undef :: undef :: undef :: undef :: undef :: undef :: undef :: undef :: undef :: undef :: undef :: undef :: undef :: undef :: undef :: undef :: undef :: undef :: undef :: undef :: undef :: undef :: undef :: undef :: undef :: undef :: undef :: undef :: undef :: undef :: undef :: undef :: undef :: undef :: undef :: undef :: undef :: undef :: undef :: undef :: undef :: undef :: undef :: undef :: []), []⟩) 1 (fun _ => 26) (fun _ => 0) (fun _ => 0) (fun _ => segs [.n 6 (ax P.pt), .n 6 (ay P.pt), .b (ai P.pt)]) (fun _ => segs [.n 6 (ax P.pt), .n 6 (ay P.pt), .b (ai P.pt)]) [4, 8] (.inr ⟨rfl, by kernel_rfl⟩) (by kernel_rfl) rfl rfl rfl ?_ ?_)
  · refine GSteps.cons (gm_box 0 rfl (fun _ => rfl) (fun _ _ => rfl) (fun γ w h => ex_boxs (l := [.n 6 (ax P.pt), .n 6 (ay P.pt), .b (ai P.pt)]) rfl) rfl rfl rfl) ?_
    refine GSteps.cons (gm_val (v := .bool false) rfl (fun _ => rfl) (fun _ => rfl) (fun γ w h => ex_assign _) rfl) ?_
    exact GSteps.nil
  intro γ1 w1 hb1 hB1 _
  refine th_r ?_
  have A2 : SB 26 w1 (γ1 0) [.n 6 (ax P.pt), .n 6 (ay P.pt), .b (ai P.pt)] := (hB1 0 (by decide)).2
  have le2 := (hB1 0 (by decide)).1
  have HB3 := below_then (Below.refl w.heap.size w) hb1.out
  refine wp_seq ?_
  refine wp_seq (region_m (F := fun _ => ⟨List.toArray ((sv [.n 6 (ax P.pt), .n 6 (ay P.pt), .b (ai P.pt)]) :: (.int .i64 n) :: (.int .u32 (s : Int)) :: (.int .u32 (t : Int)) :: (.pointer (some ⟨(γ1 0), 0, none⟩)) :: undef :: undef :: undef :: (.bool false) :: undef :: undef :: undef :: undef :: undef :: (sv [.n 6 (ax P.pt), .n 6 (ay P.pt), .b (ai P.pt)]) :: (.bool true) :: (.bool false) :: undef :: undef :: undef :: undef :: undef :: undef :: undef :: undef :: undef :: undef :: undef :: undef :: undef :: undef :: undef :: undef :: undef :: undef :: undef :: undef :: undef :: undef :: undef :: undef :: undef :: undef :: undef :: undef :: undef :: undef :: undef :: undef :: undef :: undef :: undef :: undef :: undef :: undef :: undef :: undef :: undef :: undef :: undef :: undef :: undef :: undef :: undef :: undef :: undef :: undef :: undef :: undef :: undef :: undef :: undef :: undef :: undef :: undef :: undef :: undef :: undef :: undef :: undef :: undef :: undef :: undef :: undef :: undef :: undef :: undef :: undef :: undef :: undef :: undef :: undef :: undef :: undef :: []), []⟩) 0 (fun _ => 0) (fun _ => 0) (fun _ => 0) (fun _ => []) (fun _ => []) [14, 15, 16] (.inr ⟨rfl, by kernel_rfl⟩) (by kernel_rfl) rfl rfl rfl ?_ ?_)
  · refine GSteps.cons (gm_val (v := sv [.n 6 (ax P.pt), .n 6 (ay P.pt), .b (ai P.pt)]) rfl (fun _ => rfl) (fun _ => rfl) (fun γ w h => ex_loads 0 3 (m := [.n 6 (ax P.pt), .n 6 (ay P.pt), .b (ai P.pt)]) flG1 rfl rfl (A2.keep h.out) rfl rfl) rfl) ?_
    refine GSteps.cons (gm_call (v := .bool true) rfl (fun _ => rfl) (fun _ => rfl) (fun γ w => ex_call (vs := [sv [.n 6 (ax P.pt), .n 6 (ay P.pt), .b (ai P.pt)]]) rfl Try.call9 rfl) (fun w h => r8Right_p P _) rfl) ?_
    refine GSteps.cons (gm_val (v := .bool false) rfl (fun _ => rfl) (fun _ => rfl) (fun γ w h => ex_not (r := true) rfl) rfl) ?_
    exact GSteps.nil
  intro _ w4 hb4 _ _
  refine th_r ?_
  have A5 := A2.keep hb4.out
  have HB6 := below_then HB3 hb4.out
  refine wp_cond_false rfl ?_
  refine wp_skip ?_
  refine th_r ?_
  refine seq_lit ?_
  refine sq_val (a' := ⟨List.toArray ((sv [.n 6 (ax P.pt), .n 6 (ay P.pt), .b (ai P.pt)]) :: (.int .i64 n) :: (.int .u32 (s : Int)) :: (.int .u32 (t : Int)) :: (.pointer (some ⟨(γ1 0), 0, none⟩)) :: undef :: undef :: undef :: (.bool false) :: undef :: undef :: undef :: undef :: undef :: (sv [.n 6 (ax P.pt), .n 6 (ay P.pt), .b (ai P.pt)]) :: (.bool true) :: (.bool false) :: undef :: undef :: undef :: undef :: undef :: undef :: undef :: undef :: undef :: undef :: undef :: undef :: undef :: undef :: undef :: undef :: (.int .i64 n) :: undef :: undef :: undef :: undef :: undef :: undef :: undef :: undef :: undef :: undef :: undef :: undef :: undef :: undef :: undef :: undef :: undef :: undef :: undef :: undef :: undef :: undef :: undef :: undef :: undef :: undef :: undef :: undef :: undef :: undef :: undef :: undef :: undef :: undef :: undef :: undef :: undef :: undef :: undef :: undef :: undef :: undef :: undef :: undef :: undef :: undef :: undef :: undef :: undef :: undef :: undef :: undef :: undef :: undef :: undef :: undef :: undef :: undef :: undef :: undef :: []), []⟩) (v := .int .i64 n) rfl rfl (ex_move _) ?_
  refine sq_val (a' := ⟨List.toArray ((sv [.n 6 (ax P.pt), .n 6 (ay P.pt), .b (ai P.pt)]) :: (.int .i64 n) :: (.int .u32 (s : Int)) :: (.int .u32 (t : Int)) :: (.pointer (some ⟨(γ1 0), 0, none⟩)) :: undef :: undef :: undef :: (.bool false) :: undef :: undef :: undef :: undef :: undef :: (sv [.n 6 (ax P.pt), .n 6 (ay P.pt), .b (ai P.pt)]) :: (.bool true) :: (.bool false) :: undef :: undef :: undef :: undef :: undef :: undef :: undef :: undef :: undef :: undef :: undef :: undef :: undef :: undef :: undef :: undef :: (.int .i64 n) :: (.int .i64 (max n 0)) :: undef :: undef :: undef :: undef :: undef :: undef :: undef :: undef :: undef :: undef :: undef :: undef :: undef :: undef :: undef :: undef :: undef :: undef :: undef :: undef :: undef :: undef :: undef :: undef :: undef :: undef :: undef :: undef :: undef :: undef :: undef :: undef :: undef :: undef :: undef :: undef :: undef :: undef :: undef :: undef :: undef :: undef :: undef :: undef :: undef :: undef :: undef :: undef :: undef :: undef :: undef :: undef :: undef :: undef :: undef :: undef :: undef :: undef :: undef :: []), []⟩) (v := .int .i64 (max n 0)) rfl rfl (ex_imax rfl rfl) ?_
  refine sq_val (a' := ⟨List.toArray ((sv [.n 6 (ax P.pt), .n 6 (ay P.pt), .b (ai P.pt)]) :: (.int .i64 n) :: (.int .u32 (s : Int)) :: (.int .u32 (t : Int)) :: (.pointer (some ⟨(γ1 0), 0, none⟩)) :: undef :: undef :: undef :: (.bool false) :: undef :: undef :: undef :: undef :: undef :: (sv [.n 6 (ax P.pt), .n 6 (ay P.pt), .b (ai P.pt)]) :: (.bool true) :: (.bool false) :: undef :: undef :: undef :: undef :: undef :: undef :: undef :: undef :: undef :: undef :: undef :: undef :: undef :: undef :: undef :: undef :: (.int .i64 n) :: (.int .i64 (max n 0)) :: (.int .i64 (m : Int)) :: undef :: undef :: undef :: undef :: undef :: undef :: undef :: undef :: undef :: undef :: undef :: undef :: undef :: undef :: undef :: undef :: undef :: undef :: undef :: undef :: undef :: undef :: undef :: undef :: undef :: undef :: undef :: undef :: undef :: undef :: undef :: undef :: undef :: undef :: undef :: undef :: undef :: undef :: undef :: undef :: undef :: undef :: undef :: undef :: undef :: undef :: undef :: undef :: undef :: undef :: undef :: undef :: undef :: undef :: undef :: undef :: undef :: undef :: []), []⟩) (v := .int .i64 (m : Int)) rfl rfl ((by rw [← hm]; exact ex_imin rfl rfl)) ?_
  refine sq_val (a' := ⟨List.toArray ((sv [.n 6 (ax P.pt), .n 6 (ay P.pt), .b (ai P.pt)]) :: (.int .i64 (m : Int)) :: (.int .u32 (s : Int)) :: (.int .u32 (t : Int)) :: (.pointer (some ⟨(γ1 0), 0, none⟩)) :: undef :: undef :: undef :: (.bool false) :: undef :: undef :: undef :: undef :: undef :: (sv [.n 6 (ax P.pt), .n 6 (ay P.pt), .b (ai P.pt)]) :: (.bool true) :: (.bool false) :: undef :: undef :: undef :: undef :: undef :: undef :: undef :: undef :: undef :: undef :: undef :: undef :: undef :: undef :: undef :: undef :: (.int .i64 n) :: (.int .i64 (max n 0)) :: (.int .i64 (m : Int)) :: undef :: undef :: undef :: undef :: undef :: undef :: undef :: undef :: undef :: undef :: undef :: undef :: undef :: undef :: undef :: undef :: undef :: undef :: undef :: undef :: undef :: undef :: undef :: undef :: undef :: undef :: undef :: undef :: undef :: undef :: undef :: undef :: undef :: undef :: undef :: undef :: undef :: undef :: undef :: undef :: undef :: undef :: undef :: undef :: undef :: undef :: undef :: undef :: undef :: undef :: undef :: undef :: undef :: undef :: undef :: undef :: undef :: undef :: []), []⟩) (v := .int .i64 (m : Int)) rfl rfl (ex_assign _) ?_
  refine seq_nil ?_
  refine wp_seq (region_m (F := fun γ => ⟨List.toArray ((sv [.n 6 (ax P.pt), .n 6 (ay P.pt), .b (ai P.pt)]) :: (.int .i64 (m : Int)) :: (.int .u32 (s : Int)) :: (.int .u32 (t : Int)) :: (.pointer (some ⟨(γ1 0), 0, none⟩)) :: undef :: undef :: undef :: (.bool false) :: undef :: undef :: (.pointer (some ⟨γ 0, 0, none⟩)) :: undef :: undef :: (sv [.n 6 (ax P.pt), .n 6 (ay P.pt), .b (ai P.pt)]) :: (.bool true) :: (.bool false) :: undef :: undef :: undef :: undef :: undef :: undef :: undef :: undef :: undef :: undef :: undef :: undef :: undef :: undef :: undef :: undef :: (.int .i64 n) :: (.int .i64 (max n 0)) :: (.int .i64 (m : Int)) :: (sv [.n 6 (ax Z1.pt), .n 6 (ay Z1.pt), .b (ai Z1.pt)]) :: undef :: undef :: undef :: undef :: undef :: undef :: undef :: undef :: undef :: undef :: undef :: undef :: undef :: undef :: undef :: undef :: undef :: undef :: undef :: undef :: undef :: undef :: undef :: undef :: undef :: undef :: undef :: undef :: undef :: undef :: undef :: undef :: undef :: undef :: undef :: undef :: undef :: undef :: undef :: undef :: undef :: undef :: undef :: undef :: undef :: undef :: undef :: undef :: undef :: undef :: undef :: undef :: undef :: undef :: undef :: undef :: undef :: []), []⟩) 1 (fun _ => 26) (fun _ => 1) (fun _ => 2) (fun _ => segs [.n 6 0, .n 6 0, .b false]) (fun _ => segs [.n 6 (ax Z1.pt), .n 6 (ay Z1.pt), .b (ai Z1.pt)]) [36, 11] (.inr ⟨rfl, by kernel_rfl⟩) (by kernel_rfl) rfl rfl rfl ?_ ?_)
  · refine GSteps.cons (gm_call (v := sv [.n 6 (ax Z1.pt), .n 6 (ay Z1.pt), .b (ai Z1.pt)]) rfl (fun _ => rfl) (fun _ => rfl) (fun γ w => ex_call (vs := []) rfl Try.call14 rfl) (fun w h => oneZero_p _) rfl) ?_
    refine GSteps.cons (gm_new 0 rfl (fun _ => rfl) (fun _ _ => rfl) (fun γ w => ex_allocs (l := [.n 6 0, .n 6 0, .b false]) zG1) rfl (by kernel_rfl)) ?_
    refine GSteps.cons (gm_store 0 rfl rfl (fun _ => rfl) (len_segs (l := [.n 6 (ax Z1.pt), .n 6 (ay Z1.pt), .b (ai Z1.pt)]) (l' := [.n 6 0, .n 6 0, .b false]) rfl) (fun γ w h => ex_stores 0 3 (l := [.n 6 0, .n 6 0, .b false]) (m := [.n 6 (ax Z1.pt), .n 6 (ay Z1.pt), .b (ai Z1.pt)]) flG1.2 rfl rfl rfl rfl h rfl rfl) rfl rfl (by kernel_rfl)) ?_
    exact GSteps.nil
  intro γ7 w7 hb7 hB7 _
  refine th_r ?_
  have A8 := A5.keep hb7.out
  have A9 : SB 26 w7 (γ7 0) [.n 6 (ax Z1.pt), .n 6 (ay Z1.pt), .b (ai Z1.pt)] := (hB7 0 (by decide)).2
  have le9 := (hB7 0 (by decide)).1
  have HB10 := below_then HB6 hb7.out
  refine wp_seq ?_
  refine wp_seq (region_m (F := fun _ => ⟨List.toArray ((sv [.n 6 (ax P.pt), .n 6 (ay P.pt), .b (ai P.pt)]) :: (.int .i64 (m : Int)) :: (.int .u32 (s : Int)) :: (.int .u32 (t : Int)) :: (.pointer (some ⟨(γ1 0), 0, none⟩)) :: undef :: undef :: undef :: (.bool false) :: undef :: undef :: (.pointer (some ⟨(γ7 0), 0, none⟩)) :: undef :: undef :: (sv [.n 6 (ax P.pt), .n 6 (ay P.pt), .b (ai P.pt)]) :: (.bool true) :: (.bool false) :: undef :: undef :: undef :: undef :: undef :: undef :: undef :: undef :: undef :: undef :: undef :: undef :: undef :: undef :: undef :: undef :: (.int .i64 n) :: (.int .i64 (max n 0)) :: (.int .i64 (m : Int)) :: (sv [.n 6 (ax Z1.pt), .n 6 (ay Z1.pt), .b (ai Z1.pt)]) :: (.int .i64 (m : Int)) :: (.int .i64 0) :: undef :: undef :: undef :: undef :: undef :: undef :: undef :: undef :: undef :: undef :: undef :: undef :: undef :: undef :: undef :: undef :: undef :: undef :: undef :: undef :: undef :: undef :: undef :: undef :: undef :: undef :: undef :: undef :: undef :: undef :: undef :: undef :: undef :: undef :: undef :: undef :: undef :: undef :: undef :: undef :: undef :: undef :: undef :: undef :: undef :: undef :: undef :: undef :: undef :: undef :: undef :: undef :: undef :: undef :: undef :: []), []⟩) 0 (fun _ => 0) (fun _ => 0) (fun _ => 0) (fun _ => []) (fun _ => []) [37, 38] (.inr ⟨rfl, by kernel_rfl⟩) (by kernel_rfl) rfl rfl rfl ?_ ?_)
  · refine GSteps.cons (gm_val (v := .int .i64 (m : Int)) rfl (fun _ => rfl) (fun _ => rfl) (fun γ w h => ex_move _) rfl) ?_
    refine GSteps.cons (gm_val (v := .int .i64 0) rfl (fun _ => rfl) (fun _ => rfl) (fun γ w h => ex_move _) rfl) ?_
    exact GSteps.nil
  intro _ w11 hb11 _ _
  refine th_r ?_
  have A12 := A8.keep hb11.out
  have A13 := A9.keep hb11.out
  have HB14 := below_then HB10 hb11.out
  refine wp_block ?_
  refine wp_loop_by (m) (fun q_ a_ v_ => ∃ j39 j40 j41 j42 j43 : Value, a_ = ⟨List.toArray ((sv [.n 6 (ax P.pt), .n 6 (ay P.pt), .b (ai P.pt)]) :: (.int .i64 (m : Int)) :: (.int .u32 (s : Int)) :: (.int .u32 (t : Int)) :: (.pointer (some ⟨(γ1 0), 0, none⟩)) :: undef :: undef :: undef :: (.bool false) :: undef :: undef :: (.pointer (some ⟨(γ7 0), 0, none⟩)) :: undef :: undef :: (sv [.n 6 (ax P.pt), .n 6 (ay P.pt), .b (ai P.pt)]) :: (.bool true) :: (.bool false) :: undef :: undef :: undef :: undef :: undef :: undef :: undef :: undef :: undef :: undef :: undef :: undef :: undef :: undef :: undef :: undef :: (.int .i64 n) :: (.int .i64 (max n 0)) :: (.int .i64 (m : Int)) :: (sv [.n 6 (ax Z1.pt), .n 6 (ay Z1.pt), .b (ai Z1.pt)]) :: (.int .i64 (m : Int)) :: (.int .i64 ((q_ : Nat) : Int)) :: j39 :: j40 :: j41 :: j42 :: j43 :: undef :: undef :: undef :: undef :: undef :: undef :: undef :: undef :: undef :: undef :: undef :: undef :: undef :: undef :: undef :: undef :: undef :: undef :: undef :: undef :: undef :: undef :: undef :: undef :: undef :: undef :: undef :: undef :: undef :: undef :: undef :: undef :: undef :: undef :: undef :: undef :: undef :: undef :: undef :: undef :: undef :: undef :: undef :: undef :: undef :: undef :: undef :: undef :: undef :: undef :: []), []⟩ ∧ SB 26 v_ (γ1 0) [.n 6 (ax P.pt), .n 6 (ay P.pt), .b (ai P.pt)] ∧ SB 26 v_ (γ7 0) [.n 6 (ax ((M q_).pt)), .n 6 (ay ((M q_).pt)), .b (ai ((M q_).pt))] ∧ Below w.heap.size w v_) ⟨_, _, _, _, _, rfl, A12, (by rw [hM0]; exact A13), HB14⟩ ?_ ?_
  · intro k15 hk15
    rintro _ w15 ⟨i15_39, i15_40, i15_41, i15_42, i15_43, rfl, A15_0, A15_1, HB15⟩ K15 hK15
    refine wp_seq (region_m (F := fun _ => ⟨List.toArray ((sv [.n 6 (ax P.pt), .n 6 (ay P.pt), .b (ai P.pt)]) :: (.int .i64 (m : Int)) :: (.int .u32 (s : Int)) :: (.int .u32 (t : Int)) :: (.pointer (some ⟨(γ1 0), 0, none⟩)) :: undef :: undef :: undef :: (.bool false) :: undef :: undef :: (.pointer (some ⟨(γ7 0), 0, none⟩)) :: undef :: undef :: (sv [.n 6 (ax P.pt), .n 6 (ay P.pt), .b (ai P.pt)]) :: (.bool true) :: (.bool false) :: undef :: undef :: undef :: undef :: undef :: undef :: undef :: undef :: undef :: undef :: undef :: undef :: undef :: undef :: undef :: undef :: (.int .i64 n) :: (.int .i64 (max n 0)) :: (.int .i64 (m : Int)) :: (sv [.n 6 (ax Z1.pt), .n 6 (ay Z1.pt), .b (ai Z1.pt)]) :: (.int .i64 (m : Int)) :: (.int .i64 ((k15 : Nat) : Int)) :: (.bool true) :: i15_40 :: i15_41 :: i15_42 :: i15_43 :: undef :: undef :: undef :: undef :: undef :: undef :: undef :: undef :: undef :: undef :: undef :: undef :: undef :: undef :: undef :: undef :: undef :: undef :: undef :: undef :: undef :: undef :: undef :: undef :: undef :: undef :: undef :: undef :: undef :: undef :: undef :: undef :: undef :: undef :: undef :: undef :: undef :: undef :: undef :: undef :: undef :: undef :: undef :: undef :: undef :: undef :: undef :: undef :: undef :: undef :: []), []⟩) 0 (fun _ => 0) (fun _ => 0) (fun _ => 0) (fun _ => []) (fun _ => []) [39] (.inr ⟨rfl, by kernel_rfl⟩) (by kernel_rfl) rfl rfl rfl ?_ ?_)
    · refine GSteps.cons (gm_val (v := .bool true) rfl (fun _ => rfl) (fun _ => rfl) (fun γ w h => ex_ilss rfl rfl true (by simp; omega)) rfl) ?_
      exact GSteps.nil
    intro _ w16 hb16 _ _
    refine th_r ?_
    have A17 := A15_0.keep hb16.out
    have A18 := A15_1.keep hb16.out
    have HB19 := below_then HB15 hb16.out
    refine wp_seq ?_
    refine wp_cond_true rfl ?_
    refine wp_skip ?_
    refine th_r ?_
    refine wp_seq ?_
    refine wp_block ?_
    refine region_ms (F := fun _ => ⟨List.toArray ((sv [.n 6 (ax P.pt), .n 6 (ay P.pt), .b (ai P.pt)]) :: (.int .i64 (m : Int)) :: (.int .u32 (s : Int)) :: (.int .u32 (t : Int)) :: (.pointer (some ⟨(γ1 0), 0, none⟩)) :: undef :: undef :: undef :: (.bool false) :: undef :: undef :: (.pointer (some ⟨(γ7 0), 0, none⟩)) :: undef :: undef :: (sv [.n 6 (ax P.pt), .n 6 (ay P.pt), .b (ai P.pt)]) :: (.bool true) :: (.bool false) :: undef :: undef :: undef :: undef :: undef :: undef :: undef :: undef :: undef :: undef :: undef :: undef :: undef :: undef :: undef :: undef :: (.int .i64 n) :: (.int .i64 (max n 0)) :: (.int .i64 (m : Int)) :: (sv [.n 6 (ax Z1.pt), .n 6 (ay Z1.pt), .b (ai Z1.pt)]) :: (.int .i64 (m : Int)) :: (.int .i64 ((k15 : Nat) : Int)) :: (.bool true) :: (sv [.n 6 (ax ((M k15).pt)), .n 6 (ay ((M k15).pt)), .b (ai ((M k15).pt))]) :: (sv [.n 6 (ax P.pt), .n 6 (ay P.pt), .b (ai P.pt)]) :: (sv [.n 6 (ax ((M (k15 + 1)).pt)), .n 6 (ay ((M (k15 + 1)).pt)), .b (ai ((M (k15 + 1)).pt))]) :: i15_43 :: undef :: undef :: undef :: undef :: undef :: undef :: undef :: undef :: undef :: undef :: undef :: undef :: undef :: undef :: undef :: undef :: undef :: undef :: undef :: undef :: undef :: undef :: undef :: undef :: undef :: undef :: undef :: undef :: undef :: undef :: undef :: undef :: undef :: undef :: undef :: undef :: undef :: undef :: undef :: undef :: undef :: undef :: undef :: undef :: undef :: undef :: undef :: undef :: undef :: undef :: []), []⟩) 3 ((γ7 0)) 0 (segs [.n 6 (ax ((M (k15 + 1)).pt)), .n 6 (ay ((M (k15 + 1)).pt)), .b (ai ((M (k15 + 1)).pt))]) 0 (fun _ => 0) (fun _ => 0) (fun _ => 0) (fun _ => []) (fun _ => []) [40, 41, 42] (.inr ⟨rfl, by kernel_rfl⟩) (by kernel_rfl) rfl rfl rfl ?_ ?_
    · refine GSteps.cons (late_step (gm_val (v := sv [.n 6 (ax ((M k15).pt)), .n 6 (ay ((M k15).pt)), .b (ai ((M k15).pt))]) rfl (fun _ => rfl) (fun _ => rfl) (fun γ w h => ex_loads 0 3 (m := [.n 6 (ax ((M k15).pt)), .n 6 (ay ((M k15).pt)), .b (ai ((M k15).pt))]) flG1 rfl rfl (A18.keep h.out) rfl rfl) rfl) (by kernel_rfl) rfl) ?_
      refine GSteps.cons (late_step (gm_val (v := sv [.n 6 (ax P.pt), .n 6 (ay P.pt), .b (ai P.pt)]) rfl (fun _ => rfl) (fun _ => rfl) (fun γ w h => ex_loads 0 3 (m := [.n 6 (ax P.pt), .n 6 (ay P.pt), .b (ai P.pt)]) flG1 rfl rfl (A17.keep h.out) rfl rfl) rfl) (by kernel_rfl) rfl) ?_
      refine GSteps.cons (late_step (gm_call (v := sv [.n 6 (ax ((M (k15 + 1)).pt)), .n 6 (ay ((M (k15 + 1)).pt)), .b (ai ((M (k15 + 1)).pt))]) rfl (fun _ => rfl) (fun _ => rfl) (fun γ w => ex_call (vs := [sv [.n 6 (ax ((M k15).pt)), .n 6 (ay ((M k15).pt)), .b (ai ((M k15).pt))], sv [.n 6 (ax P.pt), .n 6 (ay P.pt), .b (ai P.pt)]]) rfl Try.call19 rfl) (fun w h => oneadd_v _ P _ (hMs k15) _) rfl) (by kernel_rfl) rfl) ?_
      refine GSteps.cons (late_store rfl (fun _ => rfl) (fun γ w h => ex_stores 0 3 (l := [.n 6 (ax ((M k15).pt)), .n 6 (ay ((M k15).pt)), .b (ai ((M k15).pt))]) (m := [.n 6 (ax ((M (k15 + 1)).pt)), .n 6 (ay ((M (k15 + 1)).pt)), .b (ai ((M (k15 + 1)).pt))]) flG1.2 rfl rfl rfl rfl (A18.keep h.out) rfl rfl) rfl) ?_
      exact GSteps.nil
    intro _ w20 w20_ hb20 _ _ hs20
    have A21 := A17.keep hb20.out
    have A22 := A18.keep hb20.out
    have HB23 := below_then HB19 hb20.out
    have A24 := hs20.other (Nat.ne_of_lt (Nat.lt_of_lt_of_le A5.lt le9)) A21
    have A25 := hs20.here 0 3 (l' := [.n 6 (ax ((M (k15 + 1)).pt)), .n 6 (ay ((M (k15 + 1)).pt)), .b (ai ((M (k15 + 1)).pt))]) A22 rfl rfl rfl
    have HB26 := hs20.below HB23 (Nat.le_trans HB6.size le9)
    refine bk_n ?_
    refine th_r ?_
    refine wp_region_lit ?_
    refine sq_val (a' := ⟨List.toArray ((sv [.n 6 (ax P.pt), .n 6 (ay P.pt), .b (ai P.pt)]) :: (.int .i64 (m : Int)) :: (.int .u32 (s : Int)) :: (.int .u32 (t : Int)) :: (.pointer (some ⟨(γ1 0), 0, none⟩)) :: undef :: undef :: undef :: (.bool false) :: undef :: undef :: (.pointer (some ⟨(γ7 0), 0, none⟩)) :: undef :: undef :: (sv [.n 6 (ax P.pt), .n 6 (ay P.pt), .b (ai P.pt)]) :: (.bool true) :: (.bool false) :: undef :: undef :: undef :: undef :: undef :: undef :: undef :: undef :: undef :: undef :: undef :: undef :: undef :: undef :: undef :: undef :: (.int .i64 n) :: (.int .i64 (max n 0)) :: (.int .i64 (m : Int)) :: (sv [.n 6 (ax Z1.pt), .n 6 (ay Z1.pt), .b (ai Z1.pt)]) :: (.int .i64 (m : Int)) :: (.int .i64 ((k15 : Nat) : Int)) :: (.bool true) :: (sv [.n 6 (ax ((M k15).pt)), .n 6 (ay ((M k15).pt)), .b (ai ((M k15).pt))]) :: (sv [.n 6 (ax P.pt), .n 6 (ay P.pt), .b (ai P.pt)]) :: (sv [.n 6 (ax ((M (k15 + 1)).pt)), .n 6 (ay ((M (k15 + 1)).pt)), .b (ai ((M (k15 + 1)).pt))]) :: (.int .i64 ((k15 + 1 : Nat) : Int)) :: undef :: undef :: undef :: undef :: undef :: undef :: undef :: undef :: undef :: undef :: undef :: undef :: undef :: undef :: undef :: undef :: undef :: undef :: undef :: undef :: undef :: undef :: undef :: undef :: undef :: undef :: undef :: undef :: undef :: undef :: undef :: undef :: undef :: undef :: undef :: undef :: undef :: undef :: undef :: undef :: undef :: undef :: undef :: undef :: undef :: undef :: undef :: undef :: undef :: undef :: []), []⟩) (v := .int .i64 ((k15 + 1 : Nat) : Int)) rfl rfl (ex_iadd rfl rfl ((k15 + 1 : Nat) : Int) (by rw [wrapI64 (by omega) (by omega)]; omega)) ?_
    refine sq_val (a' := ⟨List.toArray ((sv [.n 6 (ax P.pt), .n 6 (ay P.pt), .b (ai P.pt)]) :: (.int .i64 (m : Int)) :: (.int .u32 (s : Int)) :: (.int .u32 (t : Int)) :: (.pointer (some ⟨(γ1 0), 0, none⟩)) :: undef :: undef :: undef :: (.bool false) :: undef :: undef :: (.pointer (some ⟨(γ7 0), 0, none⟩)) :: undef :: undef :: (sv [.n 6 (ax P.pt), .n 6 (ay P.pt), .b (ai P.pt)]) :: (.bool true) :: (.bool false) :: undef :: undef :: undef :: undef :: undef :: undef :: undef :: undef :: undef :: undef :: undef :: undef :: undef :: undef :: undef :: undef :: (.int .i64 n) :: (.int .i64 (max n 0)) :: (.int .i64 (m : Int)) :: (sv [.n 6 (ax Z1.pt), .n 6 (ay Z1.pt), .b (ai Z1.pt)]) :: (.int .i64 (m : Int)) :: (.int .i64 ((k15 + 1 : Nat) : Int)) :: (.bool true) :: (sv [.n 6 (ax ((M k15).pt)), .n 6 (ay ((M k15).pt)), .b (ai ((M k15).pt))]) :: (sv [.n 6 (ax P.pt), .n 6 (ay P.pt), .b (ai P.pt)]) :: (sv [.n 6 (ax ((M (k15 + 1)).pt)), .n 6 (ay ((M (k15 + 1)).pt)), .b (ai ((M (k15 + 1)).pt))]) :: (.int .i64 ((k15 + 1 : Nat) : Int)) :: undef :: undef :: undef :: undef :: undef :: undef :: undef :: undef :: undef :: undef :: undef :: undef :: undef :: undef :: undef :: undef :: undef :: undef :: undef :: undef :: undef :: undef :: undef :: undef :: undef :: undef :: undef :: undef :: undef :: undef :: undef :: undef :: undef :: undef :: undef :: undef :: undef :: undef :: undef :: undef :: undef :: undef :: undef :: undef :: undef :: undef :: undef :: undef :: undef :: undef :: []), []⟩) (v := .int .i64 ((k15 + 1 : Nat) : Int)) rfl rfl (ex_move _) ?_
    refine wpList_nil ?_
    refine th_r ?_
    exact hK15.out _ _ ⟨_, _, _, _, _, rfl, A24, A25, HB26⟩
  · rintro _ w27 ⟨i27_39, i27_40, i27_41, i27_42, i27_43, rfl, A27_0, A27_1, HB27⟩ K27
    refine wp_seq (region_m (F := fun _ => ⟨List.toArray ((sv [.n 6 (ax P.pt), .n 6 (ay P.pt), .b (ai P.pt)]) :: (.int .i64 (m : Int)) :: (.int .u32 (s : Int)) :: (.int .u32 (t : Int)) :: (.pointer (some ⟨(γ1 0), 0, none⟩)) :: undef :: undef :: undef :: (.bool false) :: undef :: undef :: (.pointer (some ⟨(γ7 0), 0, none⟩)) :: undef :: undef :: (sv [.n 6 (ax P.pt), .n 6 (ay P.pt), .b (ai P.pt)]) :: (.bool true) :: (.bool false) :: undef :: undef :: undef :: undef :: undef :: undef :: undef :: undef :: undef :: undef :: undef :: undef :: undef :: undef :: undef :: undef :: (.int .i64 n) :: (.int .i64 (max n 0)) :: (.int .i64 (m : Int)) :: (sv [.n 6 (ax Z1.pt), .n 6 (ay Z1.pt), .b (ai Z1.pt)]) :: (.int .i64 (m : Int)) :: (.int .i64 ((m : Nat) : Int)) :: (.bool false) :: i27_40 :: i27_41 :: i27_42 :: i27_43 :: undef :: undef :: undef :: undef :: undef :: undef :: undef :: undef :: undef :: undef :: undef :: undef :: undef :: undef :: undef :: undef :: undef :: undef :: undef :: undef :: undef :: undef :: undef :: undef :: undef :: undef :: undef :: undef :: undef :: undef :: undef :: undef :: undef :: undef :: undef :: undef :: undef :: undef :: undef :: undef :: undef :: undef :: undef :: undef :: undef :: undef :: undef :: undef :: undef :: undef :: []), []⟩) 0 (fun _ => 0) (fun _ => 0) (fun _ => 0) (fun _ => []) (fun _ => []) [39] (.inr ⟨rfl, by kernel_rfl⟩) (by kernel_rfl) rfl rfl rfl ?_ ?_)
    · refine GSteps.cons (gm_val (v := .bool false) rfl (fun _ => rfl) (fun _ => rfl) (fun γ w h => ex_ilss rfl rfl false (by simp)) rfl) ?_
      exact GSteps.nil
    intro _ w28 hb28 _ _
    refine th_r ?_
    have A29 := A27_0.keep hb28.out
    have A30 := A27_1.keep hb28.out
    have HB31 := below_then HB27 hb28.out
    refine wp_seq ?_
    refine wp_cond_false rfl ?_
    refine wp_exit (th_e (th_e (bk_e ?_)))
    refine th_r ?_
    refine wp_seq (region_m (F := fun γ => ⟨List.toArray ((sv [.n 6 (ax P.pt), .n 6 (ay P.pt), .b (ai P.pt)]) :: (.int .i64 (m : Int)) :: (.int .u32 (s : Int)) :: (.int .u32 (t : Int)) :: (.pointer (some ⟨(γ1 0), 0, none⟩)) :: undef :: undef :: undef :: (.bool false) :: undef :: undef :: (.pointer (some ⟨(γ7 0), 0, none⟩)) :: (.pointer (some ⟨γ 0, 0, none⟩)) :: (.pointer (some ⟨γ 1, 0, none⟩)) :: (sv [.n 6 (ax P.pt), .n 6 (ay P.pt), .b (ai P.pt)]) :: (.bool true) :: (.bool false) :: undef :: undef :: undef :: undef :: undef :: undef :: undef :: undef :: undef :: undef :: undef :: undef :: undef :: undef :: undef :: undef :: (.int .i64 n) :: (.int .i64 (max n 0)) :: (.int .i64 (m : Int)) :: (sv [.n 6 (ax Z1.pt), .n 6 (ay Z1.pt), .b (ai Z1.pt)]) :: (.int .i64 (m : Int)) :: (.int .i64 ((m : Nat) : Int)) :: (.bool false) :: i27_40 :: i27_41 :: i27_42 :: i27_43 :: (sv [.n 6 (ax P.pt), .n 6 (ay P.pt), .b (ai P.pt)]) :: (.int .u32 (s : Int)) :: (.int .u64 (s : Int)) :: (nv 4 [s]) :: (sv [.n 6 (ax X.pt), .n 6 (ay X.pt), .b (ai X.pt)]) :: (sv [.n 6 (ax P.pt), .n 6 (ay P.pt), .b (ai P.pt)]) :: (.int .u32 (t : Int)) :: (.int .u64 (t : Int)) :: (nv 4 [t]) :: (sv [.n 6 (ax Y.pt), .n 6 (ay Y.pt), .b (ai Y.pt)]) :: undef :: undef :: undef :: undef :: undef :: undef :: undef :: undef :: undef :: undef :: undef :: undef :: undef :: undef :: undef :: undef :: undef :: undef :: undef :: undef :: undef :: undef :: undef :: undef :: undef :: undef :: undef :: undef :: undef :: undef :: undef :: undef :: undef :: undef :: undef :: undef :: undef :: undef :: undef :: undef :: []), []⟩) 2 (fun j_ => match j_ with | 0 => 26 | _ => 26) (fun j_ => match j_ with | 0 => 10 | _ => 11) (fun j_ => match j_ with | 0 => 12 | _ => 13) (fun j_ => match j_ with | 0 => segs [.n 6 0, .n 6 0, .b false] | _ => segs [.n 6 0, .n 6 0, .b false]) (fun j_ => match j_ with | 0 => segs [.n 6 (ax X.pt), .n 6 (ay X.pt), .b (ai X.pt)] | _ => segs [.n 6 (ax Y.pt), .n 6 (ay Y.pt), .b (ai Y.pt)]) [44, 45, 46, 47, 48, 49, 50, 51, 52, 53, 12, 13] (.inl ⟨rfl, by kernel_rfl⟩) (by kernel_rfl) rfl rfl rfl ?_ ?_)
    · refine GSteps.cons (gm_val (v := sv [.n 6 (ax P.pt), .n 6 (ay P.pt), .b (ai P.pt)]) rfl (fun _ => rfl) (fun _ => rfl) (fun γ w h => ex_loads 0 3 (m := [.n 6 (ax P.pt), .n 6 (ay P.pt), .b (ai P.pt)]) flG1 rfl rfl (A29.keep h.out) rfl rfl) rfl) ?_
      refine GSteps.cons (gm_val (v := .int .u32 (s : Int)) rfl (fun _ => rfl) (fun _ => rfl) (fun γ w h => ex_move _) rfl) ?_
      refine GSteps.cons (gm_val (v := .int .u64 (s : Int)) rfl (fun _ => rfl) (fun _ => rfl) (fun γ w h => ex_conv3264 (a := (s : Int)) rfl (by omega) (by omega)) rfl) ?_
      refine GSteps.cons (gm_val (v := nv 4 [s]) rfl (fun _ => rfl) (fun _ => rfl) (fun γ w h => ex_limb4 (by omega) rfl) rfl) ?_
      refine GSteps.cons (gm_call (v := sv [.n 6 (ax X.pt), .n 6 (ay X.pt), .b (ai X.pt)]) rfl (fun _ => rfl) (fun _ => rfl) (fun γ w => ex_call (vs := [sv [.n 6 (ax P.pt), .n 6 (ay P.pt), .b (ai P.pt)], nv 4 [s]]) rfl Try.call21 rfl) (fun w h => onemul_v P X s (Nat.lt_trans (by omega) u64_frB) hX.symm _) rfl) ?_
      refine GSteps.cons (gm_val (v := sv [.n 6 (ax P.pt), .n 6 (ay P.pt), .b (ai P.pt)]) rfl (fun _ => rfl) (fun _ => rfl) (fun γ w h => ex_loads 0 3 (m := [.n 6 (ax P.pt), .n 6 (ay P.pt), .b (ai P.pt)]) flG1 rfl rfl (A29.keep h.out) rfl rfl) rfl) ?_
      refine GSteps.cons (gm_val (v := .int .u32 (t : Int)) rfl (fun _ => rfl) (fun _ => rfl) (fun γ w h => ex_move _) rfl) ?_
      refine GSteps.cons (gm_val (v := .int .u64 (t : Int)) rfl (fun _ => rfl) (fun _ => rfl) (fun γ w h => ex_conv3264 (a := (t : Int)) rfl (by omega) (by omega)) rfl) ?_
      refine GSteps.cons (gm_val (v := nv 4 [t]) rfl (fun _ => rfl) (fun _ => rfl) (fun γ w h => ex_limb4 (by omega) rfl) rfl) ?_
      refine GSteps.cons (gm_call (v := sv [.n 6 (ax Y.pt), .n 6 (ay Y.pt), .b (ai Y.pt)]) rfl (fun _ => rfl) (fun _ => rfl) (fun γ w => ex_call (vs := [sv [.n 6 (ax P.pt), .n 6 (ay P.pt), .b (ai P.pt)], nv 4 [t]]) rfl Try.call21 rfl) (fun w h => onemul_v P Y t (Nat.lt_trans (by omega) u64_frB) hY.symm _) rfl) ?_
      refine GSteps.cons (gm_new 0 rfl (fun _ => rfl) (fun _ _ => rfl) (fun γ w => ex_allocs (l := [.n 6 0, .n 6 0, .b false]) zG1) rfl (by kernel_rfl)) ?_
      refine GSteps.cons (gm_new 1 rfl (fun _ => rfl) (fun _ _ => rfl) (fun γ w => ex_allocs (l := [.n 6 0, .n 6 0, .b false]) zG1) rfl (by kernel_rfl)) ?_
      refine GSteps.cons (gm_store 0 rfl rfl (fun _ => rfl) (len_segs (l := [.n 6 (ax X.pt), .n 6 (ay X.pt), .b (ai X.pt)]) (l' := [.n 6 0, .n 6 0, .b false]) rfl) (fun γ w h => ex_stores 0 3 (l := [.n 6 0, .n 6 0, .b false]) (m := [.n 6 (ax X.pt), .n 6 (ay X.pt), .b (ai X.pt)]) flG1.2 rfl rfl rfl rfl h rfl rfl) rfl rfl (by kernel_rfl)) ?_
      refine GSteps.cons (gm_store 1 rfl rfl (fun _ => rfl) (len_segs (l := [.n 6 (ax Y.pt), .n 6 (ay Y.pt), .b (ai Y.pt)]) (l' := [.n 6 0, .n 6 0, .b false]) rfl) (fun γ w h => ex_stores 0 3 (l := [.n 6 0, .n 6 0, .b false]) (m := [.n 6 (ax Y.pt), .n 6 (ay Y.pt), .b (ai Y.pt)]) flG1.2 rfl rfl rfl rfl h rfl rfl) rfl rfl (by kernel_rfl)) ?_
      exact GSteps.nil
    intro γ32 w32 hb32 hB32 hn32
    refine th_r ?_
    have A33 := A29.keep hb32.out
    have A34 := A30.keep hb32.out
    have A35 : SB 26 w32 (γ32 0) [.n 6 (ax X.pt), .n 6 (ay X.pt), .b (ai X.pt)] := (hB32 0 (by decide)).2
    have le35 := (hB32 0 (by decide)).1
    have A36 : SB 26 w32 (γ32 1) [.n 6 (ax Y.pt), .n 6 (ay Y.pt), .b (ai Y.pt)] := (hB32 1 (by decide)).2
    have le36 := (hB32 1 (by decide)).1
    have HB37 := below_then HB31 hb32.out
    refine wp_seq (region_m (F := fun _ => ⟨List.toArray ((sv [.n 6 (ax P.pt), .n 6 (ay P.pt), .b (ai P.pt)]) :: (.int .i64 (m : Int)) :: (.int .u32 (s : Int)) :: (.int .u32 (t : Int)) :: (.pointer (some ⟨(γ1 0), 0, none⟩)) :: undef :: undef :: undef :: (.bool true) :: undef :: undef :: (.pointer (some ⟨(γ7 0), 0, none⟩)) :: (.pointer (some ⟨(γ32 0), 0, none⟩)) :: (.pointer (some ⟨(γ32 1), 0, none⟩)) :: (sv [.n 6 (ax P.pt), .n 6 (ay P.pt), .b (ai P.pt)]) :: (.bool true) :: (.bool false) :: undef :: undef :: undef :: undef :: undef :: undef :: undef :: undef :: undef :: undef :: undef :: undef :: undef :: undef :: undef :: undef :: (.int .i64 n) :: (.int .i64 (max n 0)) :: (.int .i64 (m : Int)) :: (sv [.n 6 (ax Z1.pt), .n 6 (ay Z1.pt), .b (ai Z1.pt)]) :: (.int .i64 (m : Int)) :: (.int .i64 ((m : Nat) : Int)) :: (.bool false) :: i27_40 :: i27_41 :: i27_42 :: i27_43 :: (sv [.n 6 (ax P.pt), .n 6 (ay P.pt), .b (ai P.pt)]) :: (.int .u32 (s : Int)) :: (.int .u64 (s : Int)) :: (nv 4 [s]) :: (sv [.n 6 (ax X.pt), .n 6 (ay X.pt), .b (ai X.pt)]) :: (sv [.n 6 (ax P.pt), .n 6 (ay P.pt), .b (ai P.pt)]) :: (.int .u32 (t : Int)) :: (.int .u64 (t : Int)) :: (nv 4 [t]) :: (sv [.n 6 (ax Y.pt), .n 6 (ay Y.pt), .b (ai Y.pt)]) :: (.bool true) :: (.bool true) :: (sv [.n 6 (ax P.pt), .n 6 (ay P.pt), .b (ai P.pt)]) :: (.int .i64 (m : Int)) :: (.int .u64 (m : Int)) :: (nv 4 [m]) :: (sv [.n 6 (ax ((M m).pt)), .n 6 (ay ((M m).pt)), .b (ai ((M m).pt))]) :: (sv [.n 6 (ax ((M m).pt)), .n 6 (ay ((M m).pt)), .b (ai ((M m).pt))]) :: (.bool true) :: (.bool true) :: (.bool true) :: (sv [.n 6 (ax X.pt), .n 6 (ay X.pt), .b (ai X.pt)]) :: (sv [.n 6 (ax Y.pt), .n 6 (ay Y.pt), .b (ai Y.pt)]) :: (sv [.n 6 (ax U.pt), .n 6 (ay U.pt), .b (ai U.pt)]) :: (sv [.n 6 (ax P.pt), .n 6 (ay P.pt), .b (ai P.pt)]) :: (.int .u32 (s : Int)) :: (.int .u64 (s : Int)) :: (.int .u32 (t : Int)) :: (.int .u64 (t : Int)) :: (.int .u64 ((s + t : Nat) : Int)) :: (nv 4 [s + t]) :: (sv [.n 6 (ax U.pt), .n 6 (ay U.pt), .b (ai U.pt)]) :: (.bool true) :: (.bool true) :: (.bool true) :: (sv [.n 6 (ax X.pt), .n 6 (ay X.pt), .b (ai X.pt)]) :: (.int .u32 (t : Int)) :: (.int .u64 (t : Int)) :: (nv 4 [t]) :: (sv [.n 6 (ax V.pt), .n 6 (ay V.pt), .b (ai V.pt)]) :: (sv [.n 6 (ax P.pt), .n 6 (ay P.pt), .b (ai P.pt)]) :: (.int .u32 (s : Int)) :: (.int .u64 (s : Int)) :: (.int .u32 (t : Int)) :: (.int .u64 (t : Int)) :: (.int .u64 ((s * t : Nat) : Int)) :: (nv 4 [s * t]) :: (sv [.n 6 (ax V.pt), .n 6 (ay V.pt), .b (ai V.pt)]) :: (.bool true) :: (.bool true) :: []), []⟩) 0 (fun _ => 0) (fun _ => 0) (fun _ => 0) (fun _ => []) (fun _ => []) [54, 55, 56, 57, 58, 59, 60, 61, 62, 63, 64, 65, 66, 67, 68, 69, 70, 71, 72, 73, 74, 75, 76, 77, 78, 79, 80, 81, 82, 83, 84, 85, 86, 87, 88, 89, 90, 91, 92, 93, 8] (.inl ⟨rfl, by kernel_rfl⟩) (by kernel_rfl) rfl rfl rfl ?_ ?_)
    · refine GSteps.cons (gm_call (v := .bool true) rfl (fun _ => rfl) (fun _ => rfl) (fun γ w => ex_call (vs := []) rfl Try.call10 rfl) (fun w h => onealive_v _) rfl) ?_
      refine GSteps.cons (gm_val (v := .bool true) rfl (fun _ => rfl) (fun _ => rfl) (fun γ w h => ex_move _) rfl) ?_
      refine GSteps.cons (gm_val (v := sv [.n 6 (ax P.pt), .n 6 (ay P.pt), .b (ai P.pt)]) rfl (fun _ => rfl) (fun _ => rfl) (fun γ w h => ex_loads 0 3 (m := [.n 6 (ax P.pt), .n 6 (ay P.pt), .b (ai P.pt)]) flG1 rfl rfl (A33.keep h.out) rfl rfl) rfl) ?_
      refine GSteps.cons (gm_val (v := .int .i64 (m : Int)) rfl (fun _ => rfl) (fun _ => rfl) (fun γ w h => ex_move _) rfl) ?_
      refine GSteps.cons (gm_val (v := .int .u64 (m : Int)) rfl (fun _ => rfl) (fun _ => rfl) (fun γ w h => ex_conv6464 (a := (m : Int)) rfl (by omega) (by omega)) rfl) ?_
      refine GSteps.cons (gm_val (v := nv 4 [m]) rfl (fun _ => rfl) (fun _ => rfl) (fun γ w h => ex_limb4 (by omega) rfl) rfl) ?_
      refine GSteps.cons (gm_call (v := sv [.n 6 (ax ((M m).pt)), .n 6 (ay ((M m).pt)), .b (ai ((M m).pt))]) rfl (fun _ => rfl) (fun _ => rfl) (fun γ w => ex_call (vs := [sv [.n 6 (ax P.pt), .n 6 (ay P.pt), .b (ai P.pt)], nv 4 [m]]) rfl Try.call21 rfl) (fun w h => onemul_v P (M m) m (Nat.lt_trans (by omega) u64_frB) (hM m).symm _) rfl) ?_
      refine GSteps.cons (gm_val (v := sv [.n 6 (ax ((M m).pt)), .n 6 (ay ((M m).pt)), .b (ai ((M m).pt))]) rfl (fun _ => rfl) (fun _ => rfl) (fun γ w h => ex_loads 0 3 (m := [.n 6 (ax ((M m).pt)), .n 6 (ay ((M m).pt)), .b (ai ((M m).pt))]) flG1 rfl rfl (A34.keep h.out) rfl rfl) rfl) ?_
      refine GSteps.cons (gm_val (v := .bool true) rfl (fun _ => rfl) (fun _ => rfl) (fun γ w h => ex_eqs gdG1 eqG1 rfl rfl rfl (shG1_of (ax_B ((M m).pt)) (ay_B ((M m).pt))) (shG1_of (ax_B ((M m).pt)) (ay_B ((M m).pt))) true (by simp)) rfl) ?_
      refine GSteps.cons (gm_val (v := .bool true) rfl (fun _ => rfl) (fun _ => rfl) (fun γ w h => ex_pick (r := true) rfl) rfl) ?_
      refine GSteps.cons (gm_val (v := .bool true) rfl (fun _ => rfl) (fun _ => rfl) (fun γ w h => ex_move _) rfl) ?_
      refine GSteps.cons (gm_val (v := sv [.n 6 (ax X.pt), .n 6 (ay X.pt), .b (ai X.pt)]) rfl (fun _ => rfl) (fun _ => rfl) (fun γ w h => ex_loads 0 3 (m := [.n 6 (ax X.pt), .n 6 (ay X.pt), .b (ai X.pt)]) flG1 rfl rfl (A35.keep h.out) rfl rfl) rfl) ?_
      refine GSteps.cons (gm_val (v := sv [.n 6 (ax Y.pt), .n 6 (ay Y.pt), .b (ai Y.pt)]) rfl (fun _ => rfl) (fun _ => rfl) (fun γ w h => ex_loads 0 3 (m := [.n 6 (ax Y.pt), .n 6 (ay Y.pt), .b (ai Y.pt)]) flG1 rfl rfl (A36.keep h.out) rfl rfl) rfl) ?_
      refine GSteps.cons (gm_call (v := sv [.n 6 (ax U.pt), .n 6 (ay U.pt), .b (ai U.pt)]) rfl (fun _ => rfl) (fun _ => rfl) (fun γ w => ex_call (vs := [sv [.n 6 (ax X.pt), .n 6 (ay X.pt), .b (ai X.pt)], sv [.n 6 (ax Y.pt), .n 6 (ay Y.pt), .b (ai Y.pt)]]) rfl Try.call19 rfl) (fun w h => oneadd_v X Y U (by rw [hU, hX, hY, EP.times_add]) _) rfl) ?_
      refine GSteps.cons (gm_val (v := sv [.n 6 (ax P.pt), .n 6 (ay P.pt), .b (ai P.pt)]) rfl (fun _ => rfl) (fun _ => rfl) (fun γ w h => ex_loads 0 3 (m := [.n 6 (ax P.pt), .n 6 (ay P.pt), .b (ai P.pt)]) flG1 rfl rfl (A33.keep h.out) rfl rfl) rfl) ?_
      refine GSteps.cons (gm_val (v := .int .u32 (s : Int)) rfl (fun _ => rfl) (fun _ => rfl) (fun γ w h => ex_move _) rfl) ?_
      refine GSteps.cons (gm_val (v := .int .u64 (s : Int)) rfl (fun _ => rfl) (fun _ => rfl) (fun γ w h => ex_conv3264 (a := (s : Int)) rfl (by omega) (by omega)) rfl) ?_
      refine GSteps.cons (gm_val (v := .int .u32 (t : Int)) rfl (fun _ => rfl) (fun _ => rfl) (fun γ w h => ex_move _) rfl) ?_
      refine GSteps.cons (gm_val (v := .int .u64 (t : Int)) rfl (fun _ => rfl) (fun _ => rfl) (fun γ w h => ex_conv3264 (a := (t : Int)) rfl (by omega) (by omega)) rfl) ?_
      refine GSteps.cons (gm_val (v := .int .u64 ((s + t : Nat) : Int)) rfl (fun _ => rfl) (fun _ => rfl) (fun γ w h => ex_iadd rfl rfl ((s + t : Nat) : Int) (by rw [wrap64 (by omega) (by omega)]; omega)) rfl) ?_
      refine GSteps.cons (gm_val (v := nv 4 [s + t]) rfl (fun _ => rfl) (fun _ => rfl) (fun γ w h => ex_limb4 (by omega) rfl) rfl) ?_
      refine GSteps.cons (gm_call (v := sv [.n 6 (ax U.pt), .n 6 (ay U.pt), .b (ai U.pt)]) rfl (fun _ => rfl) (fun _ => rfl) (fun γ w => ex_call (vs := [sv [.n 6 (ax P.pt), .n 6 (ay P.pt), .b (ai P.pt)], nv 4 [s + t]]) rfl Try.call21 rfl) (fun w h => onemul_v P U (s + t) (Nat.lt_trans (by omega) u64_frB) hU.symm _) rfl) ?_
      refine GSteps.cons (gm_val (v := .bool true) rfl (fun _ => rfl) (fun _ => rfl) (fun γ w h => ex_eqs gdG1 eqG1 rfl rfl rfl (shG1_of (ax_B U.pt) (ay_B U.pt)) (shG1_of (ax_B U.pt) (ay_B U.pt)) true (by simp)) rfl) ?_
      refine GSteps.cons (gm_val (v := .bool true) rfl (fun _ => rfl) (fun _ => rfl) (fun γ w h => ex_pick (r := true) rfl) rfl) ?_
      refine GSteps.cons (gm_val (v := .bool true) rfl (fun _ => rfl) (fun _ => rfl) (fun γ w h => ex_move _) rfl) ?_
      refine GSteps.cons (gm_val (v := sv [.n 6 (ax X.pt), .n 6 (ay X.pt), .b (ai X.pt)]) rfl (fun _ => rfl) (fun _ => rfl) (fun γ w h => ex_loads 0 3 (m := [.n 6 (ax X.pt), .n 6 (ay X.pt), .b (ai X.pt)]) flG1 rfl rfl (A35.keep h.out) rfl rfl) rfl) ?_
      refine GSteps.cons (gm_val (v := .int .u32 (t : Int)) rfl (fun _ => rfl) (fun _ => rfl) (fun γ w h => ex_move _) rfl) ?_
      refine GSteps.cons (gm_val (v := .int .u64 (t : Int)) rfl (fun _ => rfl) (fun _ => rfl) (fun γ w h => ex_conv3264 (a := (t : Int)) rfl (by omega) (by omega)) rfl) ?_
      refine GSteps.cons (gm_val (v := nv 4 [t]) rfl (fun _ => rfl) (fun _ => rfl) (fun γ w h => ex_limb4 (by omega) rfl) rfl) ?_
      refine GSteps.cons (gm_call (v := sv [.n 6 (ax V.pt), .n 6 (ay V.pt), .b (ai V.pt)]) rfl (fun _ => rfl) (fun _ => rfl) (fun γ w => ex_call (vs := [sv [.n 6 (ax X.pt), .n 6 (ay X.pt), .b (ai X.pt)], nv 4 [t]]) rfl Try.call21 rfl) (fun w h => onemul_v X V t (Nat.lt_trans (by omega) u64_frB) (by rw [hV, hX, Nat.mul_comm, EP.times_mul]) _) rfl) ?_
      refine GSteps.cons (gm_val (v := sv [.n 6 (ax P.pt), .n 6 (ay P.pt), .b (ai P.pt)]) rfl (fun _ => rfl) (fun _ => rfl) (fun γ w h => ex_loads 0 3 (m := [.n 6 (ax P.pt), .n 6 (ay P.pt), .b (ai P.pt)]) flG1 rfl rfl (A33.keep h.out) rfl rfl) rfl) ?_
      refine GSteps.cons (gm_val (v := .int .u32 (s : Int)) rfl (fun _ => rfl) (fun _ => rfl) (fun γ w h => ex_move _) rfl) ?_
      refine GSteps.cons (gm_val (v := .int .u64 (s : Int)) rfl (fun _ => rfl) (fun _ => rfl) (fun γ w h => ex_conv3264 (a := (s : Int)) rfl (by omega) (by omega)) rfl) ?_
      refine GSteps.cons (gm_val (v := .int .u32 (t : Int)) rfl (fun _ => rfl) (fun _ => rfl) (fun γ w h => ex_move _) rfl) ?_
      refine GSteps.cons (gm_val (v := .int .u64 (t : Int)) rfl (fun _ => rfl) (fun _ => rfl) (fun γ w h => ex_conv3264 (a := (t : Int)) rfl (by omega) (by omega)) rfl) ?_
      refine GSteps.cons (gm_val (v := .int .u64 ((s * t : Nat) : Int)) rfl (fun _ => rfl) (fun _ => rfl) (fun γ w h => ex_imul rfl rfl ((s * t : Nat) : Int) (wrap_mul hst)) rfl) ?_
      refine GSteps.cons (gm_val (v := nv 4 [s * t]) rfl (fun _ => rfl) (fun _ => rfl) (fun γ w h => ex_limb4 hst rfl) rfl) ?_
      refine GSteps.cons (gm_call (v := sv [.n 6 (ax V.pt), .n 6 (ay V.pt), .b (ai V.pt)]) rfl (fun _ => rfl) (fun _ => rfl) (fun γ w => ex_call (vs := [sv [.n 6 (ax P.pt), .n 6 (ay P.pt), .b (ai P.pt)], nv 4 [s * t]]) rfl Try.call21 rfl) (fun w h => onemul_v P V (s * t) (Nat.lt_trans hst u64_frB) hV.symm _) rfl) ?_
      refine GSteps.cons (gm_val (v := .bool true) rfl (fun _ => rfl) (fun _ => rfl) (fun γ w h => ex_eqs gdG1 eqG1 rfl rfl rfl (shG1_of (ax_B V.pt) (ay_B V.pt)) (shG1_of (ax_B V.pt) (ay_B V.pt)) true (by simp)) rfl) ?_
      refine GSteps.cons (gm_val (v := .bool true) rfl (fun _ => rfl) (fun _ => rfl) (fun γ w h => ex_pick (r := true) rfl) rfl) ?_
      refine GSteps.cons (gm_val (v := .bool true) rfl (fun _ => rfl) (fun _ => rfl) (fun γ w h => ex_assign _) rfl) ?_
      exact GSteps.nil
    intro _ w38 hb38 _ _
    refine th_r ?_
    have A39 := A33.keep hb38.out
    have A40 := A34.keep hb38.out
    have A41 := A35.keep hb38.out
    have A42 := A36.keep hb38.out
    have HB43 := below_then HB37 hb38.out
    exact wp_ret (bodyPost_ret (ret1 Try.results6 (res_tmp rfl)) rfl ⟨rfl, HB43⟩)

theorem oneTimes_v (x : Nat) (y : Nat) (i : Bool) (n s t : Int) (hx : x < fpB) (hy : y < fpB) (s0 : 0 ≤ s) (s1 : s ≤ 4294967295) (t0 : 0 ≤ t) (t1 : t ≤ 4294967295) (w : World) :
    Calls Try.prog 6 #[sv [.n 6 x, .n 6 y, .b i], .int .i64 n, .int .u32 s, .int .u32 t] w (Is (.bool true) w) := by
  by_cases o : RawOk x y i
  · obtain ⟨P, rfl, rfl, rfl⟩ := o
    obtain ⟨s, rfl⟩ := Int.eq_ofNat_of_zero_le s0
    obtain ⟨t, rfl⟩ := Int.eq_ofNat_of_zero_le t0
    exact oneTimes_p P n s t (by omega) (by omega) w
  · exact oneTimes_n x y i hx hy o n s t w
end Go.Proofs.Yticglgegfebnjaa

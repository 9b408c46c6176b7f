/- What is proved here: how often a point is taken; what is of the group; the reference's sum (chirographref08); the struct of functions of package point, the error's type, texts and functions in blocks, and what the reference tells of bytes, as segments; bytes with flags in the three highest bits of the first one: flags set and taken off; rows of zeros; flags of bytes in package point: set, taken off, asked and checked; package point, the first curve: its struct of functions, which points are let by, and the bytes of points. -/
import Derived.Test.YtplbcdafelejbaaGreatDoorComp
import Derived.Test.YtplbcdafelejbaaGreatDoorOne1
import Derived.Test.YtplbcdafelejbaaGreatDoorOneZ
import Derived.Test.YtplbcdafelejbaaGreatDoorTwoZ
import Derived.Test.YtplbcdafelejbaaGreatDoorFlag
import Derived.Test.YtplbcdafelejbaaGreatDoorGet
import Derived.Test.YtplbcdafelejbaaGreatDoorDuo1
import Derived.Test.YtplbcdafelejbaaGreatDoorFpRoot
namespace Go.Proofs.YtplbcdafelejbaaGreatDoor
section
open Go.RowKit Cv
set_option maxRecDepth 20000
set_option maxHeartbeats 4000000
theorem oneorder_v (w : World) :
    Calls Tryz.prog 50 #[] w (Is (nv 4 [rN]) w) := by
  go_enter Tryz.func50, Tryz.ntmps50
  refine rh1 (brf w) 72 0 [.n 4 0] [0] (fun γ => [pz (γ 0)]) ?_ ?_
  · exact stpb 0 (fun γ w h => ex_allocsn (K := 4) (l := [0]) zFr) .nil
  intro γ1 w1 hb1 A2 le2 HB3
  refine rhs HB3 le2 1 0 [.n 4 rN] [1] [nv 4 [rN]] ?_ ?_
  · refine latv (fun γ w h => ex_four lit_rN (fun _ => rfl)) ?_
    exact lato 0 1 flFr.2 (nv_cells 4 [rN]) A2 .nil
  intro w4 w4_ hb4 hs4 HB8
  have A5 := A2.keep hb4.out
  have A7 := hs4.here 0 1 (l' := [.n 4 rN]) A5 rfl rfl rfl
  exact wp_ret (bodyPost_ret (ret1 Tryz.results50 (res_nv (K := 4) (l := [rN]) rfl A7 flFr rfl)) rfl ⟨rfl, HB8⟩)
theorem ex_indexFr {ρ : Operand → Value} {d : Option Tmp} {ty0 : TypeId} {pos : String} {after : Array Edge} {guard : Option (Nat × Bool)} {w : World} {x ix : Operand} {g : Nat} (i : Nat) (hx : ρ x = (pz g)) (hi : ρ ix = .int .i64 (i : Int)) (hlt : i < 4) :
    (execOp ρ ⟨d, .indexAddr 72 x ix, ty0, pos, after, guard⟩).run Tryz.prog w = .ok (.value (pq g i)) w := by
  have e := ex_index (d := d) (ty0 := ty0) (pos := pos) (after := after) (guard := guard) (w := w) i arFr hx hi hlt
  rw [Nat.mul_one, Nat.zero_add] at e
  exact e
theorem onelength_3 (k : Nat)  (h3 : lb k 3 ≠ 0) (w : World) :
    Calls Tryz.prog 144 #[nv 4 [k]] w (Is (.int .i64 ((192 + nbits (lb k 3) : Nat) : Int)) w) := by
  go_enter Tryz.func144, Tryz.ntmps144
  refine rh1 (brf w) 72 0 [.n 4 k] [1, 2] (fun γ => [pz (γ 0), .int .i64 0]) ?_ ?_
  · refine stpb 0 (fun γ w h => ex_boxsn (K := 4) (l := [k]) rfl) ?_
    exact stpa .nil
  intro γ1 w1 hb1 A2 _ HB3
  refine wp_seq ?_
  refine rh0 HB3 [3] [.int .i64 3] ?_ ?_
  · exact stpa .nil
  intro w4 hb4 HB6
  have A5 := A2.keep hb4.out
  refine wp_block ?_
  refine wp_loop_rounds 6 ?_
  rw [rounds_succ]
  refine wp_seq ?_
  refine rh0 HB6 [4, 5] [.int .i64 3, .bool true] ?_ ?_
  · refine stpm ?_
    exact stpx (fun _ _ => ex_igeq rfl rfl true rfl) .nil
  intro w7 hb7 HB9
  have A8 := A5.keep hb7.out
  refine wp_cond_true rfl ?_
  refine wp_skip ?_
  refine th_r ?_
  refine wp_seq ?_
  refine wp_block ?_
  refine rh0 HB9 [8, 9, 10, 11] [.int .i64 3, pq (γ1 0) 3, .int .u64 ((lb k 3 : Nat) : Int), .bool true] ?_ ?_
  · refine stpm ?_
    refine stpx (fun _ _ => ex_indexFr 3 rfl rfl (by decide)) ?_
    refine stpv (fun γ w h => ex_loadlimb (v := k) (o := 3) (K := 4) (A8.keep h.out) (by decide) rfl sgU64) ?_
    exact stpx (fun _ _ => ex_neqi rfl rfl true (by simp [h3])) .nil
  intro w10 hb10 HB12
  have A11 := A8.keep hb10.out
  refine wp_cond_true rfl ?_
  refine rh0 HB12 [12, 13, 14, 15, 16, 17, 18, 2] [.int .i64 3, .int .i64 192, .int .i64 3, pq (γ1 0) 3, .int .u64 ((lb k 3 : Nat) : Int), .int .i64 ((nbits (lb k 3) : Nat) : Int), .int .i64 ((192 + nbits (lb k 3) : Nat) : Int), .int .i64 ((192 + nbits (lb k 3) : Nat) : Int)] ?_ ?_
  · refine stpm ?_
    refine stpx (fun _ _ => ex_imul rfl rfl 192 rfl) ?_
    refine stpm ?_
    refine stpx (fun _ _ => ex_indexFr 3 rfl rfl (by decide)) ?_
    refine stpv (fun γ w h => ex_loadlimb (v := k) (o := 3) (K := 4) (A11.keep h.out) (by decide) rfl sgU64) ?_
    refine stpk Tryz.call177 (fun w h => len64_is _ _ (lb_lt k 3)) ?_
    refine stpx (fun _ _ => ex_iadd rfl rfl ((192 + nbits (lb k 3) : Nat) : Int) (by have := lb_nbits k 3; rw [wrapI64 (by omega) (by omega)]; omega)) ?_
    exact stpa .nil
  intro w13 hb13 HB15
  exact wp_ret (bk_r (th_ret (th_ret (bk_r (th_ret (bodyPost_ret (ret1 Tryz.results144 (res_tmp rfl)) rfl ⟨rfl, HB15⟩))))))
theorem onelength_2 (k : Nat) (h3 : lb k 3 = 0) (h2 : lb k 2 ≠ 0) (w : World) :
    Calls Tryz.prog 144 #[nv 4 [k]] w (Is (.int .i64 ((128 + nbits (lb k 2) : Nat) : Int)) w) := by
  go_enter Tryz.func144, Tryz.ntmps144
  refine rh1 (brf w) 72 0 [.n 4 k] [1, 2] (fun γ => [pz (γ 0), .int .i64 0]) ?_ ?_
  · refine stpb 0 (fun γ w h => ex_boxsn (K := 4) (l := [k]) rfl) ?_
    exact stpa .nil
  intro γ1 w1 hb1 A2 _ HB3
  refine wp_seq ?_
  refine rh0 HB3 [3] [.int .i64 3] ?_ ?_
  · exact stpa .nil
  intro w4 hb4 HB6
  have A5 := A2.keep hb4.out
  refine wp_block ?_
  refine wp_loop_rounds 6 ?_
  rw [rounds_succ]
  refine wp_seq ?_
  refine rh0 HB6 [4, 5] [.int .i64 3, .bool true] ?_ ?_
  · refine stpm ?_
    exact stpx (fun _ _ => ex_igeq rfl rfl true rfl) .nil
  intro w7 hb7 HB9
  have A8 := A5.keep hb7.out
  refine wp_cond_true rfl ?_
  refine wp_skip ?_
  refine th_r ?_
  refine wp_seq ?_
  refine wp_block ?_
  refine rh0 HB9 [8, 9, 10, 11] [.int .i64 3, pq (γ1 0) 3, .int .u64 ((lb k 3 : Nat) : Int), .bool false] ?_ ?_
  · refine stpm ?_
    refine stpx (fun _ _ => ex_indexFr 3 rfl rfl (by decide)) ?_
    refine stpv (fun γ w h => ex_loadlimb (v := k) (o := 3) (K := 4) (A8.keep h.out) (by decide) rfl sgU64) ?_
    exact stpx (fun _ _ => ex_neqi rfl rfl false (by simp [h3])) .nil
  intro w10 hb10 HB12
  have A11 := A8.keep hb10.out
  refine wp_cond_false rfl ?_
  refine wp_skip ?_
  refine bk_n ?_
  refine th_r ?_
  refine wp_region_lit ?_
  refine sv1 (.int .i64 3) (ex_move _) ?_
  refine sv1 (.int .i64 2) (ex_isub rfl rfl 2 rfl) ?_
  refine sv1 (.int .i64 2) (ex_assign _) ?_
  refine wpList_nil ?_
  refine th_r ?_
  rw [rounds_succ]
  refine wp_seq ?_
  refine rh0 HB12 [4, 5] [.int .i64 2, .bool true] ?_ ?_
  · refine stpm ?_
    exact stpx (fun _ _ => ex_igeq rfl rfl true rfl) .nil
  intro w13 hb13 HB15
  have A14 := A11.keep hb13.out
  refine wp_cond_true rfl ?_
  refine wp_skip ?_
  refine th_r ?_
  refine wp_seq ?_
  refine wp_block ?_
  refine rh0 HB15 [8, 9, 10, 11] [.int .i64 2, pq (γ1 0) 2, .int .u64 ((lb k 2 : Nat) : Int), .bool true] ?_ ?_
  · refine stpm ?_
    refine stpx (fun _ _ => ex_indexFr 2 rfl rfl (by decide)) ?_
    refine stpv (fun γ w h => ex_loadlimb (v := k) (o := 2) (K := 4) (A14.keep h.out) (by decide) rfl sgU64) ?_
    exact stpx (fun _ _ => ex_neqi rfl rfl true (by simp [h2])) .nil
  intro w16 hb16 HB18
  have A17 := A14.keep hb16.out
  refine wp_cond_true rfl ?_
  refine rh0 HB18 [12, 13, 14, 15, 16, 17, 18, 2] [.int .i64 2, .int .i64 128, .int .i64 2, pq (γ1 0) 2, .int .u64 ((lb k 2 : Nat) : Int), .int .i64 ((nbits (lb k 2) : Nat) : Int), .int .i64 ((128 + nbits (lb k 2) : Nat) : Int), .int .i64 ((128 + nbits (lb k 2) : Nat) : Int)] ?_ ?_
  · refine stpm ?_
    refine stpx (fun _ _ => ex_imul rfl rfl 128 rfl) ?_
    refine stpm ?_
    refine stpx (fun _ _ => ex_indexFr 2 rfl rfl (by decide)) ?_
    refine stpv (fun γ w h => ex_loadlimb (v := k) (o := 2) (K := 4) (A17.keep h.out) (by decide) rfl sgU64) ?_
    refine stpk Tryz.call177 (fun w h => len64_is _ _ (lb_lt k 2)) ?_
    refine stpx (fun _ _ => ex_iadd rfl rfl ((128 + nbits (lb k 2) : Nat) : Int) (by have := lb_nbits k 2; rw [wrapI64 (by omega) (by omega)]; omega)) ?_
    exact stpa .nil
  intro w19 hb19 HB21
  exact wp_ret (bk_r (th_ret (th_ret (bk_r (th_ret (bodyPost_ret (ret1 Tryz.results144 (res_tmp rfl)) rfl ⟨rfl, HB21⟩))))))
theorem onelength_1 (k : Nat) (h3 : lb k 3 = 0) (h2 : lb k 2 = 0) (h1 : lb k 1 ≠ 0) (w : World) :
    Calls Tryz.prog 144 #[nv 4 [k]] w (Is (.int .i64 ((64 + nbits (lb k 1) : Nat) : Int)) w) := by
  go_enter Tryz.func144, Tryz.ntmps144
  refine rh1 (brf w) 72 0 [.n 4 k] [1, 2] (fun γ => [pz (γ 0), .int .i64 0]) ?_ ?_
  · refine stpb 0 (fun γ w h => ex_boxsn (K := 4) (l := [k]) rfl) ?_
    exact stpa .nil
  intro γ1 w1 hb1 A2 _ HB3
  refine wp_seq ?_
  refine rh0 HB3 [3] [.int .i64 3] ?_ ?_
  · exact stpa .nil
  intro w4 hb4 HB6
  have A5 := A2.keep hb4.out
  refine wp_block ?_
  refine wp_loop_rounds 6 ?_
  rw [rounds_succ]
  refine wp_seq ?_
  refine rh0 HB6 [4, 5] [.int .i64 3, .bool true] ?_ ?_
  · refine stpm ?_
    exact stpx (fun _ _ => ex_igeq rfl rfl true rfl) .nil
  intro w7 hb7 HB9
  have A8 := A5.keep hb7.out
  refine wp_cond_true rfl ?_
  refine wp_skip ?_
  refine th_r ?_
  refine wp_seq ?_
  refine wp_block ?_
  refine rh0 HB9 [8, 9, 10, 11] [.int .i64 3, pq (γ1 0) 3, .int .u64 ((lb k 3 : Nat) : Int), .bool false] ?_ ?_
  · refine stpm ?_
    refine stpx (fun _ _ => ex_indexFr 3 rfl rfl (by decide)) ?_
    refine stpv (fun γ w h => ex_loadlimb (v := k) (o := 3) (K := 4) (A8.keep h.out) (by decide) rfl sgU64) ?_
    exact stpx (fun _ _ => ex_neqi rfl rfl false (by simp [h3])) .nil
  intro w10 hb10 HB12
  have A11 := A8.keep hb10.out
  refine wp_cond_false rfl ?_
  refine wp_skip ?_
  refine bk_n ?_
  refine th_r ?_
  refine wp_region_lit ?_
  refine sv1 (.int .i64 3) (ex_move _) ?_
  refine sv1 (.int .i64 2) (ex_isub rfl rfl 2 rfl) ?_
  refine sv1 (.int .i64 2) (ex_assign _) ?_
  refine wpList_nil ?_
  refine th_r ?_
  rw [rounds_succ]
  refine wp_seq ?_
  refine rh0 HB12 [4, 5] [.int .i64 2, .bool true] ?_ ?_
  · refine stpm ?_
    exact stpx (fun _ _ => ex_igeq rfl rfl true rfl) .nil
  intro w13 hb13 HB15
  have A14 := A11.keep hb13.out
  refine wp_cond_true rfl ?_
  refine wp_skip ?_
  refine th_r ?_
  refine wp_seq ?_
  refine wp_block ?_
  refine rh0 HB15 [8, 9, 10, 11] [.int .i64 2, pq (γ1 0) 2, .int .u64 ((lb k 2 : Nat) : Int), .bool false] ?_ ?_
  · refine stpm ?_
    refine stpx (fun _ _ => ex_indexFr 2 rfl rfl (by decide)) ?_
    refine stpv (fun γ w h => ex_loadlimb (v := k) (o := 2) (K := 4) (A14.keep h.out) (by decide) rfl sgU64) ?_
    exact stpx (fun _ _ => ex_neqi rfl rfl false (by simp [h2])) .nil
  intro w16 hb16 HB18
  have A17 := A14.keep hb16.out
  refine wp_cond_false rfl ?_
  refine wp_skip ?_
  refine bk_n ?_
  refine th_r ?_
  refine wp_region_lit ?_
  refine sv1 (.int .i64 2) (ex_move _) ?_
  refine sv1 (.int .i64 1) (ex_isub rfl rfl 1 rfl) ?_
  refine sv1 (.int .i64 1) (ex_assign _) ?_
  refine wpList_nil ?_
  refine th_r ?_
  rw [rounds_succ]
  refine wp_seq ?_
  refine rh0 HB18 [4, 5] [.int .i64 1, .bool true] ?_ ?_
  · refine stpm ?_
    exact stpx (fun _ _ => ex_igeq rfl rfl true rfl) .nil
  intro w19 hb19 HB21
  have A20 := A17.keep hb19.out
  refine wp_cond_true rfl ?_
  refine wp_skip ?_
  refine th_r ?_
  refine wp_seq ?_
  refine wp_block ?_
  refine rh0 HB21 [8, 9, 10, 11] [.int .i64 1, pq (γ1 0) 1, .int .u64 ((lb k 1 : Nat) : Int), .bool true] ?_ ?_
  · refine stpm ?_
    refine stpx (fun _ _ => ex_indexFr 1 rfl rfl (by decide)) ?_
    refine stpv (fun γ w h => ex_loadlimb (v := k) (o := 1) (K := 4) (A20.keep h.out) (by decide) rfl sgU64) ?_
    exact stpx (fun _ _ => ex_neqi rfl rfl true (by simp [h1])) .nil
  intro w22 hb22 HB24
  have A23 := A20.keep hb22.out
  refine wp_cond_true rfl ?_
  refine rh0 HB24 [12, 13, 14, 15, 16, 17, 18, 2] [.int .i64 1, .int .i64 64, .int .i64 1, pq (γ1 0) 1, .int .u64 ((lb k 1 : Nat) : Int), .int .i64 ((nbits (lb k 1) : Nat) : Int), .int .i64 ((64 + nbits (lb k 1) : Nat) : Int), .int .i64 ((64 + nbits (lb k 1) : Nat) : Int)] ?_ ?_
  · refine stpm ?_
    refine stpx (fun _ _ => ex_imul rfl rfl 64 rfl) ?_
    refine stpm ?_
    refine stpx (fun _ _ => ex_indexFr 1 rfl rfl (by decide)) ?_
    refine stpv (fun γ w h => ex_loadlimb (v := k) (o := 1) (K := 4) (A23.keep h.out) (by decide) rfl sgU64) ?_
    refine stpk Tryz.call177 (fun w h => len64_is _ _ (lb_lt k 1)) ?_
    refine stpx (fun _ _ => ex_iadd rfl rfl ((64 + nbits (lb k 1) : Nat) : Int) (by have := lb_nbits k 1; rw [wrapI64 (by omega) (by omega)]; omega)) ?_
    exact stpa .nil
  intro w25 hb25 HB27
  exact wp_ret (bk_r (th_ret (th_ret (bk_r (th_ret (bodyPost_ret (ret1 Tryz.results144 (res_tmp rfl)) rfl ⟨rfl, HB27⟩))))))
theorem onelength_0 (k : Nat) (h3 : lb k 3 = 0) (h2 : lb k 2 = 0) (h1 : lb k 1 = 0) (h0 : lb k 0 ≠ 0) (w : World) :
    Calls Tryz.prog 144 #[nv 4 [k]] w (Is (.int .i64 ((0 + nbits (lb k 0) : Nat) : Int)) w) := by
  go_enter Tryz.func144, Tryz.ntmps144
  refine rh1 (brf w) 72 0 [.n 4 k] [1, 2] (fun γ => [pz (γ 0), .int .i64 0]) ?_ ?_
  · refine stpb 0 (fun γ w h => ex_boxsn (K := 4) (l := [k]) rfl) ?_
    exact stpa .nil
  intro γ1 w1 hb1 A2 _ HB3
  refine wp_seq ?_
  refine rh0 HB3 [3] [.int .i64 3] ?_ ?_
  · exact stpa .nil
  intro w4 hb4 HB6
  have A5 := A2.keep hb4.out
  refine wp_block ?_
  refine wp_loop_rounds 6 ?_
  rw [rounds_succ]
  refine wp_seq ?_
  refine rh0 HB6 [4, 5] [.int .i64 3, .bool true] ?_ ?_
  · refine stpm ?_
    exact stpx (fun _ _ => ex_igeq rfl rfl true rfl) .nil
  intro w7 hb7 HB9
  have A8 := A5.keep hb7.out
  refine wp_cond_true rfl ?_
  refine wp_skip ?_
  refine th_r ?_
  refine wp_seq ?_
  refine wp_block ?_
  refine rh0 HB9 [8, 9, 10, 11] [.int .i64 3, pq (γ1 0) 3, .int .u64 ((lb k 3 : Nat) : Int), .bool false] ?_ ?_
  · refine stpm ?_
    refine stpx (fun _ _ => ex_indexFr 3 rfl rfl (by decide)) ?_
    refine stpv (fun γ w h => ex_loadlimb (v := k) (o := 3) (K := 4) (A8.keep h.out) (by decide) rfl sgU64) ?_
    exact stpx (fun _ _ => ex_neqi rfl rfl false (by simp [h3])) .nil
  intro w10 hb10 HB12
  have A11 := A8.keep hb10.out
  refine wp_cond_false rfl ?_
  refine wp_skip ?_
  refine bk_n ?_
  refine th_r ?_
  refine wp_region_lit ?_
  refine sv1 (.int .i64 3) (ex_move _) ?_
  refine sv1 (.int .i64 2) (ex_isub rfl rfl 2 rfl) ?_
  refine sv1 (.int .i64 2) (ex_assign _) ?_
  refine wpList_nil ?_
  refine th_r ?_
  rw [rounds_succ]
  refine wp_seq ?_
  refine rh0 HB12 [4, 5] [.int .i64 2, .bool true] ?_ ?_
  · refine stpm ?_
    exact stpx (fun _ _ => ex_igeq rfl rfl true rfl) .nil
  intro w13 hb13 HB15
  have A14 := A11.keep hb13.out
  refine wp_cond_true rfl ?_
  refine wp_skip ?_
  refine th_r ?_
  refine wp_seq ?_
  refine wp_block ?_
  refine rh0 HB15 [8, 9, 10, 11] [.int .i64 2, pq (γ1 0) 2, .int .u64 ((lb k 2 : Nat) : Int), .bool false] ?_ ?_
  · refine stpm ?_
    refine stpx (fun _ _ => ex_indexFr 2 rfl rfl (by decide)) ?_
    refine stpv (fun γ w h => ex_loadlimb (v := k) (o := 2) (K := 4) (A14.keep h.out) (by decide) rfl sgU64) ?_
    exact stpx (fun _ _ => ex_neqi rfl rfl false (by simp [h2])) .nil
  intro w16 hb16 HB18
  have A17 := A14.keep hb16.out
  refine wp_cond_false rfl ?_
  refine wp_skip ?_
  refine bk_n ?_
  refine th_r ?_
  refine wp_region_lit ?_
  refine sv1 (.int .i64 2) (ex_move _) ?_
  refine sv1 (.int .i64 1) (ex_isub rfl rfl 1 rfl) ?_
  refine sv1 (.int .i64 1) (ex_assign _) ?_
  refine wpList_nil ?_
  refine th_r ?_
  rw [rounds_succ]
  refine wp_seq ?_
  refine rh0 HB18 [4, 5] [.int .i64 1, .bool true] ?_ ?_
  · refine stpm ?_
    exact stpx (fun _ _ => ex_igeq rfl rfl true rfl) .nil
  intro w19 hb19 HB21
  have A20 := A17.keep hb19.out
  refine wp_cond_true rfl ?_
  refine wp_skip ?_
  refine th_r ?_
  refine wp_seq ?_
  refine wp_block ?_
  refine rh0 HB21 [8, 9, 10, 11] [.int .i64 1, pq (γ1 0) 1, .int .u64 ((lb k 1 : Nat) : Int), .bool false] ?_ ?_
  · refine stpm ?_
    refine stpx (fun _ _ => ex_indexFr 1 rfl rfl (by decide)) ?_
    refine stpv (fun γ w h => ex_loadlimb (v := k) (o := 1) (K := 4) (A20.keep h.out) (by decide) rfl sgU64) ?_
    exact stpx (fun _ _ => ex_neqi rfl rfl false (by simp [h1])) .nil
  intro w22 hb22 HB24
  have A23 := A20.keep hb22.out
  refine wp_cond_false rfl ?_
  refine wp_skip ?_
  refine bk_n ?_
  refine th_r ?_
  refine wp_region_lit ?_
  refine sv1 (.int .i64 1) (ex_move _) ?_
  refine sv1 (.int .i64 0) (ex_isub rfl rfl 0 rfl) ?_
  refine sv1 (.int .i64 0) (ex_assign _) ?_
  refine wpList_nil ?_
  refine th_r ?_
  rw [rounds_succ]
  refine wp_seq ?_
  refine rh0 HB24 [4, 5] [.int .i64 0, .bool true] ?_ ?_
  · refine stpm ?_
    exact stpx (fun _ _ => ex_igeq rfl rfl true rfl) .nil
  intro w25 hb25 HB27
  have A26 := A23.keep hb25.out
  refine wp_cond_true rfl ?_
  refine wp_skip ?_
  refine th_r ?_
  refine wp_seq ?_
  refine wp_block ?_
  refine rh0 HB27 [8, 9, 10, 11] [.int .i64 0, pz (γ1 0), .int .u64 ((lb k 0 : Nat) : Int), .bool true] ?_ ?_
  · refine stpm ?_
    refine stpx (fun _ _ => ex_indexFr 0 rfl rfl (by decide)) ?_
    refine stpv (fun γ w h => ex_loadlimb (v := k) (o := 0) (K := 4) (A26.keep h.out) (by decide) rfl sgU64) ?_
    exact stpx (fun _ _ => ex_neqi rfl rfl true (by simp [h0])) .nil
  intro w28 hb28 HB30
  have A29 := A26.keep hb28.out
  refine wp_cond_true rfl ?_
  refine rh0 HB30 [12, 13, 14, 15, 16, 17, 18, 2] [.int .i64 0, .int .i64 0, .int .i64 0, pz (γ1 0), .int .u64 ((lb k 0 : Nat) : Int), .int .i64 ((nbits (lb k 0) : Nat) : Int), .int .i64 ((0 + nbits (lb k 0) : Nat) : Int), .int .i64 ((0 + nbits (lb k 0) : Nat) : Int)] ?_ ?_
  · refine stpm ?_
    refine stpx (fun _ _ => ex_imul rfl rfl 0 rfl) ?_
    refine stpm ?_
    refine stpx (fun _ _ => ex_indexFr 0 rfl rfl (by decide)) ?_
    refine stpv (fun γ w h => ex_loadlimb (v := k) (o := 0) (K := 4) (A29.keep h.out) (by decide) rfl sgU64) ?_
    refine stpk Tryz.call177 (fun w h => len64_is _ _ (lb_lt k 0)) ?_
    refine stpx (fun _ _ => ex_iadd rfl rfl ((0 + nbits (lb k 0) : Nat) : Int) (by have := lb_nbits k 0; rw [wrapI64 (by omega) (by omega)]; omega)) ?_
    exact stpa .nil
  intro w31 hb31 HB33
  exact wp_ret (bk_r (th_ret (th_ret (bk_r (th_ret (bodyPost_ret (ret1 Tryz.results144 (res_tmp rfl)) rfl ⟨rfl, HB33⟩))))))
theorem onelength_no (k : Nat) (h3 : lb k 3 = 0) (h2 : lb k 2 = 0) (h1 : lb k 1 = 0) (h0 : lb k 0 = 0) (w : World) :
    Calls Tryz.prog 144 #[nv 4 [k]] w (Is (.int .i64 0) w) := by
  go_enter Tryz.func144, Tryz.ntmps144
  refine rh1 (brf w) 72 0 [.n 4 k] [1, 2] (fun γ => [pz (γ 0), .int .i64 0]) ?_ ?_
  · refine stpb 0 (fun γ w h => ex_boxsn (K := 4) (l := [k]) rfl) ?_
    exact stpa .nil
  intro γ1 w1 hb1 A2 _ HB3
  refine wp_seq ?_
  refine rh0 HB3 [3] [.int .i64 3] ?_ ?_
  · exact stpa .nil
  intro w4 hb4 HB6
  have A5 := A2.keep hb4.out
  refine wp_block ?_
  refine wp_loop_rounds 6 ?_
  rw [rounds_succ]
  refine wp_seq ?_
  refine rh0 HB6 [4, 5] [.int .i64 3, .bool true] ?_ ?_
  · refine stpm ?_
    exact stpx (fun _ _ => ex_igeq rfl rfl true rfl) .nil
  intro w7 hb7 HB9
  have A8 := A5.keep hb7.out
  refine wp_cond_true rfl ?_
  refine wp_skip ?_
  refine th_r ?_
  refine wp_seq ?_
  refine wp_block ?_
  refine rh0 HB9 [8, 9, 10, 11] [.int .i64 3, pq (γ1 0) 3, .int .u64 ((lb k 3 : Nat) : Int), .bool false] ?_ ?_
  · refine stpm ?_
    refine stpx (fun _ _ => ex_indexFr 3 rfl rfl (by decide)) ?_
    refine stpv (fun γ w h => ex_loadlimb (v := k) (o := 3) (K := 4) (A8.keep h.out) (by decide) rfl sgU64) ?_
    exact stpx (fun _ _ => ex_neqi rfl rfl false (by simp [h3])) .nil
  intro w10 hb10 HB12
  have A11 := A8.keep hb10.out
  refine wp_cond_false rfl ?_
  refine wp_skip ?_
  refine bk_n ?_
  refine th_r ?_
  refine wp_region_lit ?_
  refine sv1 (.int .i64 3) (ex_move _) ?_
  refine sv1 (.int .i64 2) (ex_isub rfl rfl 2 rfl) ?_
  refine sv1 (.int .i64 2) (ex_assign _) ?_
  refine wpList_nil ?_
  refine th_r ?_
  rw [rounds_succ]
  refine wp_seq ?_
  refine rh0 HB12 [4, 5] [.int .i64 2, .bool true] ?_ ?_
  · refine stpm ?_
    exact stpx (fun _ _ => ex_igeq rfl rfl true rfl) .nil
  intro w13 hb13 HB15
  have A14 := A11.keep hb13.out
  refine wp_cond_true rfl ?_
  refine wp_skip ?_
  refine th_r ?_
  refine wp_seq ?_
  refine wp_block ?_
  refine rh0 HB15 [8, 9, 10, 11] [.int .i64 2, pq (γ1 0) 2, .int .u64 ((lb k 2 : Nat) : Int), .bool false] ?_ ?_
  · refine stpm ?_
    refine stpx (fun _ _ => ex_indexFr 2 rfl rfl (by decide)) ?_
    refine stpv (fun γ w h => ex_loadlimb (v := k) (o := 2) (K := 4) (A14.keep h.out) (by decide) rfl sgU64) ?_
    exact stpx (fun _ _ => ex_neqi rfl rfl false (by simp [h2])) .nil
  intro w16 hb16 HB18
  have A17 := A14.keep hb16.out
  refine wp_cond_false rfl ?_
  refine wp_skip ?_
  refine bk_n ?_
  refine th_r ?_
  refine wp_region_lit ?_
  refine sv1 (.int .i64 2) (ex_move _) ?_
  refine sv1 (.int .i64 1) (ex_isub rfl rfl 1 rfl) ?_
  refine sv1 (.int .i64 1) (ex_assign _) ?_
  refine wpList_nil ?_
  refine th_r ?_
  rw [rounds_succ]
  refine wp_seq ?_
  refine rh0 HB18 [4, 5] [.int .i64 1, .bool true] ?_ ?_
  · refine stpm ?_
    exact stpx (fun _ _ => ex_igeq rfl rfl true rfl) .nil
  intro w19 hb19 HB21
  have A20 := A17.keep hb19.out
  refine wp_cond_true rfl ?_
  refine wp_skip ?_
  refine th_r ?_
  refine wp_seq ?_
  refine wp_block ?_
  refine rh0 HB21 [8, 9, 10, 11] [.int .i64 1, pq (γ1 0) 1, .int .u64 ((lb k 1 : Nat) : Int), .bool false] ?_ ?_
  · refine stpm ?_
    refine stpx (fun _ _ => ex_indexFr 1 rfl rfl (by decide)) ?_
    refine stpv (fun γ w h => ex_loadlimb (v := k) (o := 1) (K := 4) (A20.keep h.out) (by decide) rfl sgU64) ?_
    exact stpx (fun _ _ => ex_neqi rfl rfl false (by simp [h1])) .nil
  intro w22 hb22 HB24
  have A23 := A20.keep hb22.out
  refine wp_cond_false rfl ?_
  refine wp_skip ?_
  refine bk_n ?_
  refine th_r ?_
  refine wp_region_lit ?_
  refine sv1 (.int .i64 1) (ex_move _) ?_
  refine sv1 (.int .i64 0) (ex_isub rfl rfl 0 rfl) ?_
  refine sv1 (.int .i64 0) (ex_assign _) ?_
  refine wpList_nil ?_
  refine th_r ?_
  rw [rounds_succ]
  refine wp_seq ?_
  refine rh0 HB24 [4, 5] [.int .i64 0, .bool true] ?_ ?_
  · refine stpm ?_
    exact stpx (fun _ _ => ex_igeq rfl rfl true rfl) .nil
  intro w25 hb25 HB27
  have A26 := A23.keep hb25.out
  refine wp_cond_true rfl ?_
  refine wp_skip ?_
  refine th_r ?_
  refine wp_seq ?_
  refine wp_block ?_
  refine rh0 HB27 [8, 9, 10, 11] [.int .i64 0, pz (γ1 0), .int .u64 ((lb k 0 : Nat) : Int), .bool false] ?_ ?_
  · refine stpm ?_
    refine stpx (fun _ _ => ex_indexFr 0 rfl rfl (by decide)) ?_
    refine stpv (fun γ w h => ex_loadlimb (v := k) (o := 0) (K := 4) (A26.keep h.out) (by decide) rfl sgU64) ?_
    exact stpx (fun _ _ => ex_neqi rfl rfl false (by simp [h0])) .nil
  intro w28 hb28 HB30
  refine wp_cond_false rfl ?_
  refine wp_skip ?_
  refine bk_n ?_
  refine th_r ?_
  refine wp_region_lit ?_
  refine sv1 (.int .i64 0) (ex_move _) ?_
  refine sv1 (.int .i64 (-1)) (ex_isub rfl rfl (-1) rfl) ?_
  refine sv1 (.int .i64 (-1)) (ex_assign _) ?_
  refine wpList_nil ?_
  refine th_r ?_
  rw [rounds_succ]
  refine wp_seq ?_
  refine rh0 HB30 [4, 5] [.int .i64 (-1), .bool false] ?_ ?_
  · refine stpm ?_
    exact stpx (fun _ _ => ex_igeq rfl rfl false rfl) .nil
  intro w31 hb31 HB33
  refine wp_cond_false rfl ?_
  refine wp_exit (th_e (th_e (bk_e ?_)))
  refine th_r ?_
  refine rh0 HB33 [2] [.int .i64 0] ?_ ?_
  · exact stpa .nil
  intro w34 hb34 HB36
  exact wp_ret (bodyPost_ret (ret1 Tryz.results144 (res_tmp rfl)) rfl ⟨rfl, HB36⟩)
theorem onelength_q {k : Nat} (hk : k < frB) : ∃ L : Nat, L ≤ 256 ∧ k < 2 ^ L ∧ CI 144 #[nv 4 [k]] (.int .i64 ((L : Nat) : Int)) := by
  have b3 : k < 2 ^ (64 * (3 + 1)) := Nat.lt_of_lt_of_eq hk frB_eq
  by_cases h3 : lb k 3 = 0
  · have b2 := lb_top_zero b3 h3
    by_cases h2 : lb k 2 = 0
    · have b1 := lb_top_zero b2 h2
      by_cases h1 : lb k 1 = 0
      · have b0 := lb_top_zero b1 h1
        by_cases h0 : lb k 0 = 0
        · have bn := lb_top_zero b0 h0
          exact ⟨0, by decide, bn, fun w => onelength_no k h3 h2 h1 h0 w⟩
        · have l0 := lb_nbits k 0
          exact ⟨0 + nbits (lb k 0), by omega, lb_top_lt b0, fun w => onelength_0 k h3 h2 h1 h0 w⟩
      · have l1 := lb_nbits k 1
        exact ⟨64 + nbits (lb k 1), by omega, lb_top_lt b1, fun w => onelength_1 k h3 h2 h1 w⟩
    · have l2 := lb_nbits k 2
      exact ⟨128 + nbits (lb k 2), by omega, lb_top_lt b2, fun w => onelength_2 k h3 h2 w⟩
  · have l3 := lb_nbits k 3
    exact ⟨192 + nbits (lb k 3), by omega, lb_top_lt b3, fun w => onelength_3 k h3 w⟩
def oneT (s : Tri Zp) (k L : Nat) : Nat → Tri Zp
  | 0 => ⟨0, 1, 0⟩
  | j + 1 => if k / 2 ^ (L - (j + 1)) % 2 = 1 then plusT (12 : Zp) (twiceT (12 : Zp) (oneT s k L j)) s else twiceT (12 : Zp) (oneT s k L j)
theorem oneT_is {s : Tri Zp} {P : E1} (hs : s.Is P.pt) {k L : Nat} (hk : k < 2 ^ L) : ∀ j, j ≤ L → (oneT s k L j).Is (EP.times C1 (k / 2 ^ (L - j)) P).pt
  | 0, _ => by
    rw [Nat.sub_zero, Nat.div_eq_of_lt hk]
    exact ⟨rfl, rfl, one_ne FdP⟩
  | j + 1, hj => by
    have ih := oneT_is hs hk j (by omega)
    have e : L - j = L - (j + 1) + 1 := by omega
    rw [e, Nat.pow_succ, ← Nat.div_div_eq_div_mul] at ih
    unfold oneT
    generalize k / 2 ^ (L - (j + 1)) = m at ih ⊢
    generalize oneT s k L j = u at ih ⊢
    have h2 : (twiceT (12 : Zp) u).Is (EP.times C1 (m / 2 + m / 2) P).pt := by
      rw [EP.times_add, twelve]
      exact twice_ok FdP hN1 (EP.on _) ih (EP.sum C1 _ _)
    split
    · next h1 =>
      have em : m / 2 + m / 2 + 1 = m := by omega
      rw [← em]
      show Tri.Is _ ((EP.times C1 (m / 2 + m / 2) P).add C1 P).pt
      generalize twiceT (12 : Zp) u = v at h2 ⊢
      rw [twelve]
      exact plus_ok FdP hN1 (EP.on _) P.on h2 hs (EP.sum C1 _ _)
    · next h1 =>
      rw [show m / 2 + m / 2 = m by omega] at h2
      exact h2
theorem onetimes_v (s : Tri Zp) (k L : Nat) (hL256 : L ≤ 256) (hL : CI 144 #[nv 4 [k]] (.int .i64 ((L : Nat) : Int))) (w : World) :
    Calls Tryz.prog 94 #[sv [.n 6 s.x.val, .n 6 s.y.val, .n 6 s.z.val], nv 4 [k]] w (Is (sv [.n 6 (((oneT s k L L).x).val), .n 6 (((oneT s k L L).y).val), .n 6 (((oneT s k L L).z).val)]) w) := by
  obtain ⟨T, hT⟩ : ∃ T, T = oneT s k L := ⟨_, rfl⟩
  obtain ⟨U, hU⟩ : ∃ U : Nat → Tri Zp, ∀ j, U j = twiceT (12 : Zp) (T j) := ⟨_, fun _ => rfl⟩
  obtain ⟨V, hV⟩ : ∃ V : Nat → Tri Zp, ∀ j, V j = plusT (12 : Zp) (U j) s := ⟨_, fun _ => rfl⟩
  have hS0 : ∀ j, k / 2 ^ (L - (j + 1)) % 2 = 0 → T (j + 1) = U j := fun j h => by
    rw [hU, hT]
    show (if _ then _ else _) = _
    rw [if_neg (by omega)]
  have hS1 : ∀ j, k / 2 ^ (L - (j + 1)) % 2 = 1 → T (j + 1) = V j := fun j h => by
    rw [hV, hU, hT]
    show (if _ then _ else _) = _
    rw [if_pos h]
  have hT0 : CI 143 #[] (sv [.n 6 (((T 0).x).val), .n 6 (((T 0).y).val), .n 6 (((T 0).z).val)]) := fun w => by
    have h := onenowhere_v w
    rw [onenowhere_t] at h
    rw [hT]
    exact h
  rw [← hT]
  go_enter Tryz.func94, Tryz.ntmps94
  refine rh3 (brf w) 98 0 [.n 6 s.x.val, .n 6 s.y.val, .n 6 s.z.val] 72 1 [.n 4 k] 98 2 [.n 6 0, .n 6 0, .n 6 0] [2, 3, 4] (fun γ => [pz (γ 0), pz (γ 1), pz (γ 2)]) ?_ ?_
  · refine stpb 0 (fun γ w h => ex_boxs (l := [.n 6 s.x.val, .n 6 s.y.val, .n 6 s.z.val]) rfl) ?_
    refine stpb 1 (fun γ w h => ex_boxsn (K := 4) (l := [k]) rfl) ?_
    exact stpb 2 (fun γ w h => ex_allocs (l := [.n 6 0, .n 6 0, .n 6 0]) zPG1) .nil
  intro γ1 w1 hb1 A2 A3 A4 _ _ le4 hn1 HB5
  refine rhc HB5 [(98, 1, 2, [.n 6 0, .n 6 0, .n 6 0], [.n 6 (((T 0).x).val), .n 6 (((T 0).y).val), .n 6 (((T 0).z).val)])] [7, 5] (fun γ => [sv [.n 6 (((T 0).x).val), .n 6 (((T 0).y).val), .n 6 (((T 0).z).val)], pz (γ 0)]) ?_ ?_
  · refine stpk Tryz.call143 (fun w h => hT0 _) ?_
    refine stpn 0 (fun γ w => ex_allocs (l := [.n 6 0, .n 6 0, .n 6 0]) zPG1) ?_
    exact stpq 0 0 3 flPG1.2 .nil
  intro γ6 w6 hb6 hB6 _ HB11
  have A7 := A2.keep hb6.out
  have A8 := A3.keep hb6.out
  have A9 := A4.keep hb6.out
  have A10 : SB 98 w6 (γ6 0) [.n 6 (((T 0).x).val), .n 6 (((T 0).y).val), .n 6 (((T 0).z).val)] := (hB6 0 rfl).2
  have le10 := (hB6 0 rfl).1
  refine wp_seq ?_
  refine rh0 HB11 [8, 9, 10, 6] [nv 4 [k], .int .i64 ((L : Nat) : Int), .int .i64 ((L : Int) - 1 - ((0 : Nat) : Int)), .int .i64 ((L : Int) - 1 - ((0 : Nat) : Int))] ?_ ?_
  · refine stpv (fun γ w h => ex_loadsn (K := 4) 0 1 (m := [k]) flFr rfl rfl (A8.keep h.out) rfl rfl) ?_
    refine stpk Tryz.call144 (fun w h => hL _) ?_
    refine stpx (fun _ _ => ex_isub rfl rfl ((L : Int) - 1 - ((0 : Nat) : Int)) (by rw [wrapI64 (by omega) (by omega)]; omega)) ?_
    exact stpa .nil
  intro w12 hb12 HB17
  have A13 := A7.keep hb12.out
  have A14 := A8.keep hb12.out
  have A15 := A9.keep hb12.out
  have A16 := A10.keep hb12.out
  refine wp_block ?_
  refine wp_loop_by (L) (fun q_ a_ v_ => ∃ j11 j12 j13 j14 j15 j16 j17 j18 j19 j20 j21 j22 j23 j24 j25 j26 j27 j28 : Value, a_ = ⟨#[sv [.n 6 s.x.val, .n 6 s.y.val, .n 6 s.z.val], nv 4 [k], pz (γ1 0), pz (γ1 1), pz (γ1 2), pz (γ6 0), .int .i64 ((L : Int) - 1 - ((q_ : Nat) : Int)), sv [.n 6 (((T 0).x).val), .n 6 (((T 0).y).val), .n 6 (((T 0).z).val)], nv 4 [k], .int .i64 ((L : Nat) : Int), .int .i64 ((L : Int) - 1 - ((0 : Nat) : Int)), j11, j12, j13, j14, j15, j16, j17, j18, j19, j20, j21, j22, j23, j24, j25, j26, j27, j28, undef], []⟩ ∧ SB 98 v_ (γ1 0) [.n 6 s.x.val, .n 6 s.y.val, .n 6 s.z.val] ∧ SB 72 v_ (γ1 1) [.n 4 k] ∧ SB 98 v_ (γ1 2) [.n 6 0, .n 6 0, .n 6 0] ∧ SB 98 v_ (γ6 0) [.n 6 (((T q_).x).val), .n 6 (((T q_).y).val), .n 6 (((T q_).z).val)] ∧ Below w.heap.size w v_) ⟨_, _, _, _, _, _, _, _, _, _, _, _, _, _, _, _, _, _, rfl, A13, A14, A15, A16, HB17⟩ ?_ ?_
  · intro k18 hk18
    rintro _ w18 ⟨i18_11, i18_12, i18_13, i18_14, i18_15, i18_16, i18_17, i18_18, i18_19, i18_20, i18_21, i18_22, i18_23, i18_24, i18_25, i18_26, i18_27, i18_28, rfl, A18_0, A18_1, A18_2, A18_3, HB18⟩ K18 hK18
    obtain ⟨n, hn⟩ : ∃ n, L = n + 1 + k18 := ⟨L - 1 - k18, by omega⟩
    have en : (L : Int) - 1 - ((k18 : Nat) : Int) = (n : Int) := by omega
    rw [en]
    have hn4 : n / 64 < 4 := by omega
    refine wp_seq ?_
    refine rh0 HB18 [11, 12] [.int .i64 (n : Int), .bool true] ?_ ?_
    · refine stpm ?_
      exact stpx (fun _ _ => ex_igeq rfl rfl true (by first | (simp; done) | (simp; omega))) .nil
    intro w19 hb19 HB24
    have A20 := A18_0.keep hb19.out
    have A21 := A18_1.keep hb19.out
    have A22 := A18_2.keep hb19.out
    have A23 := A18_3.keep hb19.out
    refine wp_cond_true rfl ?_
    refine wp_skip ?_
    refine th_r ?_
    refine wp_seq ?_
    refine wp_block ?_
    refine rhs HB24 (Nat.le_trans HB5.size le10) 2 0 [.n 6 (((U k18).x).val), .n 6 (((U k18).y).val), .n 6 (((U k18).z).val)] [15, 16] [sv [.n 6 (((T k18).x).val), .n 6 (((T k18).y).val), .n 6 (((T k18).z).val)], sv [.n 6 (((U k18).x).val), .n 6 (((U k18).y).val), .n 6 (((U k18).z).val)]] ?_ ?_
    · refine latv (fun γ w h => ex_loads 0 3 (m := [.n 6 (((T k18).x).val), .n 6 (((T k18).y).val), .n 6 (((T k18).z).val)]) flPG1 rfl rfl (A23.keep h.out) rfl rfl) ?_
      refine latk Tryz.call145 (fun w h => onetwice_q (hU k18) _) ?_
      exact latq 0 3 flPG1.2 A23 .nil
    intro w25 w25_ hb25 hs25 HB35
    have A26 := A20.keep hb25.out
    have A27 := A21.keep hb25.out
    have A28 := A22.keep hb25.out
    have A29 := A23.keep hb25.out
    have A31 := hs25.other (Nat.ne_of_lt (Nat.lt_of_lt_of_le A2.lt le10)) A26
    have A32 := hs25.other (Nat.ne_of_lt (Nat.lt_of_lt_of_le A3.lt le10)) A27
    have A33 := hs25.other (Nat.ne_of_lt (Nat.lt_of_lt_of_le A4.lt le10)) A28
    have A34 := hs25.here 0 3 (l' := [.n 6 (((U k18).x).val), .n 6 (((U k18).y).val), .n 6 (((U k18).z).val)]) A29 rfl rfl rfl
    rcases Nat.mod_two_eq_zero_or_one (k / 2 ^ n) with hb | hb
    · refine rh0 HB35 [17, 18, 19, 20, 21, 22, 23, 24, 25] [.int .i64 (n : Int), .int .i64 ((n / 64 : Nat) : Int), .pointer (some ⟨(γ1 1), n / 64, none⟩), .int .u64 ((lb k (n / 64) : Nat) : Int), .int .i64 (n : Int), .int .i64 ((n % 64 : Nat) : Int), .int .u64 ((lb k (n / 64) / 2 ^ (n % 64) : Nat) : Int), .int .u64 ((0 : Nat) : Int), .bool false] ?_ ?_
      · refine stpm ?_
        refine stpx (fun _ _ => ex_iquo (a := n) (b := 64) rfl rfl (by decide) (by omega)) ?_
        refine stpx (fun _ _ => ex_indexFr (n / 64) rfl rfl hn4) ?_
        refine stpv (fun γ w h => ex_loadlimb (v := k) (o := n / 64) (K := 4) (A32.keep h.out) hn4 rfl sgU64) ?_
        refine stpm ?_
        refine stpx (fun _ _ => ex_irem (a := n) (b := 64) rfl rfl (by decide)) ?_
        refine stpx (fun _ _ => ex_ushr rfl rfl (by omega)) ?_
        refine stpx (fun _ _ => ex_uand1 rfl rfl 0 (by rw [lb_is_bit]; exact hb) (Nat.lt_of_le_of_lt (Nat.div_le_self _ _) (lb_lt k (n / 64)))) ?_
        exact stpx (fun _ _ => ex_eqi rfl rfl false rfl) .nil
      intro w36 hb36 HB41
      have A37 := A31.keep hb36.out
      have A38 := A32.keep hb36.out
      have A39 := A33.keep hb36.out
      have A40 := A34.keep hb36.out
      refine wp_cond_false rfl ?_
      refine wp_skip ?_
      refine bk_n ?_
      refine th_r ?_
      refine wp_region_lit ?_
      refine sv1 (.int .i64 (n : Int)) (ex_move _) ?_
      refine sv1 (.int .i64 ((L : Int) - 1 - ((k18 + 1 : Nat) : Int))) (ex_isub rfl rfl ((L : Int) - 1 - ((k18 + 1 : Nat) : Int)) (by rw [wrapI64 (by omega) (by omega)]; omega)) ?_
      refine sv1 (.int .i64 ((L : Int) - 1 - ((k18 + 1 : Nat) : Int))) (ex_assign _) ?_
      refine wpList_nil ?_
      refine th_r ?_
      exact hK18.out _ _ ⟨_, _, _, _, _, _, _, _, _, _, _, _, _, _, _, _, _, _, rfl, A37, A38, A39, (by rw [hS0 _ (by rw [show L - (_ + 1) = n by omega]; exact hb)]; exact A40), HB41⟩
    · refine rh0 HB35 [17, 18, 19, 20, 21, 22, 23, 24, 25] [.int .i64 (n : Int), .int .i64 ((n / 64 : Nat) : Int), .pointer (some ⟨(γ1 1), n / 64, none⟩), .int .u64 ((lb k (n / 64) : Nat) : Int), .int .i64 (n : Int), .int .i64 ((n % 64 : Nat) : Int), .int .u64 ((lb k (n / 64) / 2 ^ (n % 64) : Nat) : Int), .int .u64 ((1 : Nat) : Int), .bool true] ?_ ?_
      · refine stpm ?_
        refine stpx (fun _ _ => ex_iquo (a := n) (b := 64) rfl rfl (by decide) (by omega)) ?_
        refine stpx (fun _ _ => ex_indexFr (n / 64) rfl rfl hn4) ?_
        refine stpv (fun γ w h => ex_loadlimb (v := k) (o := n / 64) (K := 4) (A32.keep h.out) hn4 rfl sgU64) ?_
        refine stpm ?_
        refine stpx (fun _ _ => ex_irem (a := n) (b := 64) rfl rfl (by decide)) ?_
        refine stpx (fun _ _ => ex_ushr rfl rfl (by omega)) ?_
        refine stpx (fun _ _ => ex_uand1 rfl rfl 1 (by rw [lb_is_bit]; exact hb) (Nat.lt_of_le_of_lt (Nat.div_le_self _ _) (lb_lt k (n / 64)))) ?_
        exact stpx (fun _ _ => ex_eqi rfl rfl true rfl) .nil
      intro w42 hb42 HB47
      have A43 := A31.keep hb42.out
      have A44 := A32.keep hb42.out
      have A45 := A33.keep hb42.out
      have A46 := A34.keep hb42.out
      refine wp_cond_true rfl ?_
      refine region_s 3 ((γ6 0)) 0 (segs [.n 6 (((V k18).x).val), .n 6 (((V k18).y).val), .n 6 (((V k18).z).val)]) [26, 27, 28] [sv [.n 6 (((U k18).x).val), .n 6 (((U k18).y).val), .n 6 (((U k18).z).val)], sv [.n 6 s.x.val, .n 6 s.y.val, .n 6 s.z.val], sv [.n 6 (((V k18).x).val), .n 6 (((V k18).y).val), .n 6 (((V k18).z).val)]] ?_ ?_
      · refine latv (fun γ w h => ex_loads 0 3 (m := [.n 6 (((U k18).x).val), .n 6 (((U k18).y).val), .n 6 (((U k18).z).val)]) flPG1 rfl rfl (A46.keep h.out) rfl rfl) ?_
        refine latv (fun γ w h => ex_loads 0 3 (m := [.n 6 s.x.val, .n 6 s.y.val, .n 6 s.z.val]) flPG1 rfl rfl (A43.keep h.out) rfl rfl) ?_
        refine latk Tryz.call146 (fun w h => oneplus_q (hV k18) _) ?_
        exact latq 0 3 flPG1.2 A46 .nil
      intro w48 w48_ hb48 hs48
      have A49 := A43.keep hb48.out
      have A50 := A44.keep hb48.out
      have A51 := A45.keep hb48.out
      have A52 := A46.keep hb48.out
      have HB53 := below_then HB47 hb48.out
      have A54 := hs48.other (Nat.ne_of_lt (Nat.lt_of_lt_of_le A2.lt le10)) A49
      have A55 := hs48.other (Nat.ne_of_lt (Nat.lt_of_lt_of_le A3.lt le10)) A50
      have A56 := hs48.other (Nat.ne_of_lt (Nat.lt_of_lt_of_le A4.lt le10)) A51
      have A57 := hs48.here 0 3 (l' := [.n 6 (((V k18).x).val), .n 6 (((V k18).y).val), .n 6 (((V k18).z).val)]) A52 rfl rfl rfl
      have HB58 := hs48.below HB53 (Nat.le_trans HB5.size le10)
      refine bk_n ?_
      refine th_r ?_
      refine wp_region_lit ?_
      refine sv1 (.int .i64 (n : Int)) (ex_move _) ?_
      refine sv1 (.int .i64 ((L : Int) - 1 - ((k18 + 1 : Nat) : Int))) (ex_isub rfl rfl ((L : Int) - 1 - ((k18 + 1 : Nat) : Int)) (by rw [wrapI64 (by omega) (by omega)]; omega)) ?_
      refine sv1 (.int .i64 ((L : Int) - 1 - ((k18 + 1 : Nat) : Int))) (ex_assign _) ?_
      refine wpList_nil ?_
      refine th_r ?_
      exact hK18.out _ _ ⟨_, _, _, _, _, _, _, _, _, _, _, _, _, _, _, _, _, _, rfl, A54, A55, A56, (by rw [hS1 _ (by rw [show L - (_ + 1) = n by omega]; exact hb)]; exact A57), HB58⟩
  · rintro _ w59 ⟨i59_11, i59_12, i59_13, i59_14, i59_15, i59_16, i59_17, i59_18, i59_19, i59_20, i59_21, i59_22, i59_23, i59_24, i59_25, i59_26, i59_27, i59_28, rfl, A59_0, A59_1, A59_2, A59_3, HB59⟩ K59
    refine wp_seq ?_
    refine rh0 HB59 [11, 12] [.int .i64 ((L : Int) - 1 - ((L : Nat) : Int)), .bool false] ?_ ?_
    · refine stpm ?_
      exact stpx (fun _ _ => ex_igeq rfl rfl false (by first | (simp; done) | (simp; omega))) .nil
    intro w60 hb60 HB65
    have A63 := A59_2.keep hb60.out
    have A64 := A59_3.keep hb60.out
    refine wp_cond_false rfl ?_
    refine wp_exit (th_e (th_e (bk_e ?_)))
    refine th_r ?_
    refine rhs HB65 le4 1 0 [.n 6 (((T L).x).val), .n 6 (((T L).y).val), .n 6 (((T L).z).val)] [29] [sv [.n 6 (((T L).x).val), .n 6 (((T L).y).val), .n 6 (((T L).z).val)]] ?_ ?_
    · refine latv (fun γ w h => ex_loads 0 3 (m := [.n 6 (((T L).x).val), .n 6 (((T L).y).val), .n 6 (((T L).z).val)]) flPG1 rfl rfl (A64.keep h.out) rfl rfl) ?_
      exact latq 0 3 flPG1.2 A63 .nil
    intro w66 w66_ hb66 hs66 HB76
    have A69 := A63.keep hb66.out
    have A74 := hs66.here 0 3 (l' := [.n 6 (((T L).x).val), .n 6 (((T L).y).val), .n 6 (((T L).z).val)]) A69 rfl rfl rfl
    exact wp_ret (bodyPost_ret (ret1 Tryz.results94 (res_sv rfl A74 flPG1 rfl)) rfl ⟨rfl, HB76⟩)
theorem onetimes_q {s : Tri Zp} {P : E1} (hs : s.Is P.pt) {k : Nat} (hk : k < frB) : ∃ u : Tri Zp, u.Is (EP.times C1 k P).pt ∧ CI 94 #[sv [.n 6 s.x.val, .n 6 s.y.val, .n 6 s.z.val], nv 4 [k]] (sv [.n 6 u.x.val, .n 6 u.y.val, .n 6 u.z.val]) := by
  obtain ⟨L, h1, h2, h3⟩ := onelength_q hk
  have h := oneT_is hs h2 L (Nat.le_refl _)
  rw [Nat.sub_self, Nat.pow_zero, Nat.div_one] at h
  exact ⟨_, h, fun w => onetimes_v s k L h1 h3 w⟩
theorem oneMul_p (P R : E1) (k : Nat) (hk : k < frB) (hs : EP.times C1 k P = R) (w : World) :
    Calls Tryz.prog 49 #[sv [.n 6 (ax P.pt), .n 6 (ay P.pt), .b (ai P.pt)], nv 4 [k]] w (Is (.tuple #[sv [.n 6 (ax R.pt), .n 6 (ay R.pt), .b (ai R.pt)], .int .i64 0]) w) := by
  obtain ⟨u, hR, hu⟩ := onetimes_q (oneTri_is P.pt) hk
  rw [hs] at hR
  go_enter Tryz.func49, Tryz.ntmps49
  refine rh3 (brf w) 26 0 [.n 6 (ax P.pt), .n 6 (ay P.pt), .b (ai P.pt)] 72 1 [.n 4 k] 26 2 [.n 6 0, .n 6 0, .b false] [2, 3, 4, 5] (fun γ => [pz (γ 0), pz (γ 1), pz (γ 2), .int .i64 0]) ?_ ?_
  · refine stpb 0 (fun γ w h => ex_boxs (l := [.n 6 (ax P.pt), .n 6 (ay P.pt), .b (ai P.pt)]) rfl) ?_
    refine stpb 1 (fun γ w h => ex_boxsn (K := 4) (l := [k]) rfl) ?_
    refine stpb 2 (fun γ w h => ex_allocs (l := [.n 6 0, .n 6 0, .b false]) zG1) ?_
    exact stpa .nil
  intro γ1 w1 hb1 A2 A3 A4 _ _ le4 hn1 HB5
  refine wp_seq ?_
  refine rh0 HB5 [6, 7, 8] [sv [.n 6 (ax P.pt), .n 6 (ay P.pt), .b (ai P.pt)], .bool true, .bool false] ?_ ?_
  · refine stpv (fun γ w h => ex_loads 0 3 (m := [.n 6 (ax P.pt), .n 6 (ay P.pt), .b (ai P.pt)]) flG1 rfl rfl (A2.keep h.out) rfl rfl) ?_
    refine stpk Tryz.call72 (fun w h => oneRight_p P _) ?_
    exact stpx (fun _ _ => ex_not (r := true) rfl) .nil
  intro w6 hb6 HB10
  have A7 := A2.keep hb6.out
  have A8 := A3.keep hb6.out
  have A9 := A4.keep hb6.out
  refine wp_cond_false rfl ?_
  refine wp_skip ?_
  refine th_r ?_
  refine rhs HB10 le4 5 0 [.n 6 (ax R.pt), .n 6 (ay R.pt), .b (ai R.pt)] [10, 11, 12, 13, 14, 5] [sv [.n 6 (ax P.pt), .n 6 (ay P.pt), .b (ai P.pt)], sv [.n 6 (((oneTri P.pt).x).val), .n 6 (((oneTri P.pt).y).val), .n 6 (((oneTri P.pt).z).val)], nv 4 [k], sv [.n 6 u.x.val, .n 6 u.y.val, .n 6 u.z.val], sv [.n 6 (ax R.pt), .n 6 (ay R.pt), .b (ai R.pt)], .int .i64 0] ?_ ?_
  · refine latv (fun γ w h => ex_loads 0 3 (m := [.n 6 (ax P.pt), .n 6 (ay P.pt), .b (ai P.pt)]) flG1 rfl rfl (A7.keep h.out) rfl rfl) ?_
    refine latk Tryz.call93 (fun w h => onebring_q P.pt _) ?_
    refine latv (fun γ w h => ex_loadsn (K := 4) 0 1 (m := [k]) flFr rfl rfl (A8.keep h.out) rfl rfl) ?_
    refine latk Tryz.call94 (fun w h => hu _) ?_
    refine latk Tryz.call95 (fun w h => oneback_q hR _) ?_
    refine latq 0 3 flG1.2 A9 ?_
    exact latf (fun γ w => ex_assign _) .nil
  intro w11 w11_ hb11 hs11 HB19
  have A14 := A9.keep hb11.out
  have A18 := hs11.here 0 3 (l' := [.n 6 (ax R.pt), .n 6 (ay R.pt), .b (ai R.pt)]) A14 rfl rfl rfl
  exact wp_ret (bodyPost_ret (ret2 Tryz.results49 (res_sv rfl A18 flG1 rfl) (res_tmp rfl)) rfl ⟨rfl, HB19⟩)
theorem rN_B : rN < frB := by decide +kernel
theorem oneGroup_v (P R : E1) (hs : EP.times C1 rN P = R) (w : World) :
    Calls Tryz.prog 16 #[sv [.n 6 (ax P.pt), .n 6 (ay P.pt), .b (ai P.pt)]] w (Is (.bool (ai R.pt)) w) := by
  go_enter Tryz.func16, Tryz.ntmps16
  refine rh1 (brf w) 26 0 [.n 6 (ax P.pt), .n 6 (ay P.pt), .b (ai P.pt)] [1, 2] (fun γ => [pz (γ 0), .bool false]) ?_ ?_
  · refine stpb 0 (fun γ w h => ex_boxs (l := [.n 6 (ax P.pt), .n 6 (ay P.pt), .b (ai P.pt)]) rfl) ?_
    exact stpa .nil
  intro γ1 w1 hb1 A2 _ HB3
  refine rhc HB3 [(26, 6, 7, [.n 6 0, .n 6 0, .b false], [.n 6 (ax R.pt), .n 6 (ay R.pt), .b (ai R.pt)])] [6, 7, 8, 5, 9, 10, 3, 4] (fun γ => [sv [.n 6 (ax P.pt), .n 6 (ay P.pt), .b (ai P.pt)], nv 4 [rN], .tuple #[sv [.n 6 (ax R.pt), .n 6 (ay R.pt), .b (ai R.pt)], .int .i64 0], .tuple #[sv [.n 6 (ax R.pt), .n 6 (ay R.pt), .b (ai R.pt)], .int .i64 0], sv [.n 6 (ax R.pt), .n 6 (ay R.pt), .b (ai R.pt)], .int .i64 0, pz (γ 0), .int .i64 0]) ?_ ?_
  · refine stpv (fun γ w h => ex_loads 0 3 (m := [.n 6 (ax P.pt), .n 6 (ay P.pt), .b (ai P.pt)]) flG1 rfl rfl (A2.keep h.out) rfl rfl) ?_
    refine stpk Tryz.call50 (fun w h => oneorder_v _) ?_
    refine stpk Tryz.call49 (fun w h => oneMul_p P R rN rN_B hs _) ?_
    refine stpm ?_
    refine stpx (fun _ _ => ex_extract rfl rfl) ?_
    refine stpx (fun _ _ => ex_extract rfl rfl) ?_
    refine stpn 0 (fun γ w => ex_allocs (l := [.n 6 0, .n 6 0, .b false]) zG1) ?_
    refine stpq 0 0 3 flG1.2 ?_
    exact stpa .nil
  intro γ4 w4 hb4 hB4 _ HB7
  have A6 : SB 26 w4 (γ4 0) [.n 6 (ax R.pt), .n 6 (ay R.pt), .b (ai R.pt)] := (hB4 0 rfl).2
  refine rh0 HB7 [11, 12, 13, 14, 15, 16, 2] [.int .i64 0, .bool true, .bool true, pq (γ4 0) 12, .bool (ai R.pt), .bool (ai R.pt), .bool (ai R.pt)] ?_ ?_
  · refine stpm ?_
    refine stpx (fun _ _ => ex_eqi rfl rfl _ rfl) ?_
    refine stpm ?_
    refine stpx (fun _ _ => ex_field faG1_2 rfl) ?_
    refine stpv (fun γ w h => ex_load1 2 (s := .b (ai R.pt)) (v := .bool (ai R.pt)) sgBool rfl (A6.keep h.out) rfl rfl rfl) ?_
    refine stpx (fun _ _ => ex_pick (r := true) rfl) ?_
    exact stpa .nil
  intro w8 hb8 HB11
  exact wp_ret (bodyPost_ret (ret1 Tryz.results16 (res_tmp rfl)) rfl ⟨rfl, HB11⟩)
theorem oneGroup_q (P : E1) (r : Bool) (hr : r = true ↔ EP.times C1 rN P = EP.zero) (w : World) : Calls Tryz.prog 16 #[sv [.n 6 (ax P.pt), .n 6 (ay P.pt), .b (ai P.pt)]] w (Is (.bool r) w) := by
  have h := oneGroup_v P _ rfl w
  have e : ai (EP.times C1 rN P).pt = r := by
    rw [Bool.eq_iff_iff, hr]
    constructor
    · intro h
      refine EP.ext' ?_
      generalize (EP.times C1 rN P).pt = Q at h ⊢
      cases Q with
      | inf => rfl
      | aff x y => cases h
    · intro h
      rw [h]
      rfl
  rw [e] at h
  exact h
theorem lit_g1x : nv 6 [g1x] = .agg #[.int .u64 18103045581585958587, .int .u64 7806400890582735599, .int .u64 11623291730934869080, .int .u64 14080658508445169925, .int .u64 2780237799254240271, .int .u64 1725392847304644500] := by rw [nv6]; kernel_rfl
theorem lit_g1y : nv 6 [g1y] = .agg #[.int .u64 912580534683953121, .int .u64 15005087156090211044, .int .u64 61670280795567085, .int .u64 18227722000993880822, .int .u64 11573741888802228964, .int .u64 627113611842199793] := by rw [nv6]; kernel_rfl
theorem oneGen_v (w : World) :
    Calls Tryz.prog 33 #[] w (Is (sv [.n 6 g1x, .n 6 g1y, .b false]) w) := by
  go_enter Tryz.func33, Tryz.ntmps33
  refine rh1 (brf w) 26 0 [.n 6 0, .n 6 0, .b false] [0] (fun γ => [pz (γ 0)]) ?_ ?_
  · exact stpb 0 (fun γ w h => ex_allocs (l := [.n 6 0, .n 6 0, .b false]) zG1) .nil
  intro γ1 w1 hb1 A2 le2 HB3
  refine rhs HB3 le2 3 0 [.n 6 g1x, .n 6 g1y, .b false] [1, 2, 3] [nv 6 [g1x], nv 6 [g1y], sv [.n 6 g1x, .n 6 g1y, .b false]] ?_ ?_
  · refine latv (fun γ w h => ex_six lit_g1x (fun _ => rfl)) ?_
    refine latv (fun γ w h => ex_six lit_g1y (fun _ => rfl)) ?_
    refine latv (fun γ w h => ex_builds stG1 (l := [.n 6 g1x, .n 6 g1y, .b false]) (vs := [(0, nv 6 [g1x]), (1, nv 6 [g1y])]) rfl ((fills_cons 0 1 (m := [.n 6 g1x]) (z' := [.n 6 g1x, .n 6 0, .b false]) rfl (nv_cells 6 [g1x]) rfl rfl rfl rfl).trans ((fills_cons 1 1 (m := [.n 6 g1y]) (z' := [.n 6 g1x, .n 6 g1y, .b false]) rfl (nv_cells 6 [g1y]) rfl rfl rfl rfl).trans rfl))) ?_
    exact latq 0 3 flG1.2 A2 .nil
  intro w4 w4_ hb4 hs4 HB8
  have A5 := A2.keep hb4.out
  have A7 := hs4.here 0 3 (l' := [.n 6 g1x, .n 6 g1y, .b false]) A5 rfl rfl rfl
  exact wp_ret (bodyPost_ret (ret1 Tryz.results33 (res_sv rfl A7 flG1 rfl)) rfl ⟨rfl, HB8⟩)
theorem onegen_t : sv [.n 6 g1x, .n 6 g1y, .b false] = sv [.n 6 (ax G1.pt), .n 6 (ay G1.pt), .b (ai G1.pt)] := by
  have h0 : g1x = ax G1.pt := by decide +kernel
  have h1 : g1y = ay G1.pt := by decide +kernel
  rw [← h0, ← h1]
  rfl
def Z1 : E1 := EP.zero
end

section
section
section
open Go.RowKit Cv
theorem sgT0 : Single 27 := ⟨Tryz.isAgg27, Tryz.sizeOf27⟩
theorem sgT1 : Single 9 := ⟨Tryz.isAgg9, Tryz.sizeOf9⟩
theorem sgT3 : Single 57 := ⟨Tryz.isAgg57, Tryz.sizeOf57⟩
theorem sgT4 : Single 58 := ⟨Tryz.isAgg58, Tryz.sizeOf58⟩
theorem sgT5 : Single 37 := ⟨Tryz.isAgg37, Tryz.sizeOf37⟩
theorem sgT6 : Single 36 := ⟨Tryz.isAgg36, Tryz.sizeOf36⟩
theorem sgT7 : Single 39 := ⟨Tryz.isAgg39, Tryz.sizeOf39⟩
theorem sgT8 : Single 59 := ⟨Tryz.isAgg59, Tryz.sizeOf59⟩
theorem sgT9 : Single 60 := ⟨Tryz.isAgg60, Tryz.sizeOf60⟩
theorem sgT10 : Single 61 := ⟨Tryz.isAgg61, Tryz.sizeOf61⟩
theorem sgT11 : Single 40 := ⟨Tryz.isAgg40, Tryz.sizeOf40⟩
theorem sgT12 : Single 74 := ⟨Tryz.isAgg74, Tryz.sizeOf74⟩
theorem sgT13 : Single 75 := ⟨Tryz.isAgg75, Tryz.sizeOf75⟩
theorem sgT14 : Single 49 := ⟨Tryz.isAgg49, Tryz.sizeOf49⟩
theorem sgT15 : Single 48 := ⟨Tryz.isAgg48, Tryz.sizeOf48⟩
theorem sgT16 : Single 51 := ⟨Tryz.isAgg51, Tryz.sizeOf51⟩
theorem sgT17 : Single 66 := ⟨Tryz.isAgg66, Tryz.sizeOf66⟩
theorem sgT18 : Single 76 := ⟨Tryz.isAgg76, Tryz.sizeOf76⟩
theorem sgT19 : Single 77 := ⟨Tryz.isAgg77, Tryz.sizeOf77⟩
theorem sgT20 : Single 52 := ⟨Tryz.isAgg52, Tryz.sizeOf52⟩
theorem zErr (w : World) : (zeroValue 27).run Tryz.prog w = .ok (.int .i64 0) w := Tryz.zeroValue27 w
theorem cv1_fields : Tryz.prog.underlying 63 = some (.struct (List.toArray [⟨"size", 3, 0, false, "", "chirograph/point", 0⟩, ⟨"write", 57, 1, false, "", "chirograph/point", 8⟩, ⟨"read", 58, 2, false, "", "chirograph/point", 16⟩, ⟨"high", 37, 3, false, "", "chirograph/point", 24⟩, ⟨"negative", 36, 4, false, "", "chirograph/point", 32⟩, ⟨"level", 39, 5, false, "", "chirograph/point", 40⟩, ⟨"zero", 59, 6, false, "", "chirograph/point", 48⟩, ⟨"made", 60, 7, false, "", "chirograph/point", 56⟩, ⟨"parts", 61, 8, false, "", "chirograph/point", 64⟩, ⟨"right", 40, 9, false, "", "chirograph/point", 72⟩, ⟨"group", 40, 10, false, "", "chirograph/point", 80⟩])) := Tryz.underlying63
theorem flCv1 : Flat 63 11 := ⟨Tryz.isAgg63, Tryz.sizeOf63⟩
theorem faCv1_0 : FieldAt 63 0 0 := ⟨_, _, 0, cv1_fields, rfl, rfl, Tryz.sizeOf3⟩
theorem faCv1_1 : FieldAt 63 1 1 := ⟨_, _, 0, cv1_fields, rfl, rfl, Tryz.sizeOf57⟩
theorem faCv1_2 : FieldAt 63 2 2 := ⟨_, _, 0, cv1_fields, rfl, rfl, Tryz.sizeOf58⟩
theorem faCv1_3 : FieldAt 63 3 3 := ⟨_, _, 0, cv1_fields, rfl, rfl, Tryz.sizeOf37⟩
theorem faCv1_4 : FieldAt 63 4 4 := ⟨_, _, 0, cv1_fields, rfl, rfl, Tryz.sizeOf36⟩
theorem faCv1_5 : FieldAt 63 5 5 := ⟨_, _, 0, cv1_fields, rfl, rfl, Tryz.sizeOf39⟩
theorem faCv1_6 : FieldAt 63 6 6 := ⟨_, _, 0, cv1_fields, rfl, rfl, Tryz.sizeOf59⟩
theorem faCv1_7 : FieldAt 63 7 7 := ⟨_, _, 0, cv1_fields, rfl, rfl, Tryz.sizeOf60⟩
theorem faCv1_8 : FieldAt 63 8 8 := ⟨_, _, 0, cv1_fields, rfl, rfl, Tryz.sizeOf61⟩
theorem faCv1_9 : FieldAt 63 9 9 := ⟨_, _, 0, cv1_fields, rfl, rfl, Tryz.sizeOf40⟩
theorem faCv1_10 : FieldAt 63 10 10 := ⟨_, _, 0, cv1_fields, rfl, rfl, Tryz.sizeOf40⟩
theorem zCv1 (w : World) : (zeroValue 63).run Tryz.prog w = .ok (sv [.i .i64 0, .v .nilFunc, .v .nilFunc, .v .nilFunc, .v .nilFunc, .v .nilFunc, .v .nilFunc, .v .nilFunc, .v .nilFunc, .v .nilFunc, .v .nilFunc]) w := Tryz.zeroValue63 w
theorem stCv1 : StructS 63 [.i .i64 0, .v .nilFunc, .v .nilFunc, .v .nilFunc, .v .nilFunc, .v .nilFunc, .v .nilFunc, .v .nilFunc, .v .nilFunc, .v .nilFunc, .v .nilFunc] [(0, 1), (1, 1), (2, 1), (3, 1), (4, 1), (5, 1), (6, 1), (7, 1), (8, 1), (9, 1), (10, 1)] := by
  refine ⟨_, cv1_fields, zCv1, fun w => ?_⟩
  simp [Sem.run_bind, Tryz.sizeOf3, Tryz.sizeOf57, Tryz.sizeOf58, Tryz.sizeOf37, Tryz.sizeOf36, Tryz.sizeOf39, Tryz.sizeOf59, Tryz.sizeOf60, Tryz.sizeOf61, Tryz.sizeOf40]
theorem cv2_fields : Tryz.prog.underlying 79 = some (.struct (List.toArray [⟨"size", 3, 0, false, "", "chirograph/point", 0⟩, ⟨"write", 74, 1, false, "", "chirograph/point", 8⟩, ⟨"read", 75, 2, false, "", "chirograph/point", 16⟩, ⟨"high", 49, 3, false, "", "chirograph/point", 24⟩, ⟨"negative", 48, 4, false, "", "chirograph/point", 32⟩, ⟨"level", 51, 5, false, "", "chirograph/point", 40⟩, ⟨"zero", 66, 6, false, "", "chirograph/point", 48⟩, ⟨"made", 76, 7, false, "", "chirograph/point", 56⟩, ⟨"parts", 77, 8, false, "", "chirograph/point", 64⟩, ⟨"right", 52, 9, false, "", "chirograph/point", 72⟩, ⟨"group", 52, 10, false, "", "chirograph/point", 80⟩])) := Tryz.underlying79
theorem flCv2 : Flat 79 11 := ⟨Tryz.isAgg79, Tryz.sizeOf79⟩
theorem faCv2_0 : FieldAt 79 0 0 := ⟨_, _, 0, cv2_fields, rfl, rfl, Tryz.sizeOf3⟩
theorem faCv2_1 : FieldAt 79 1 1 := ⟨_, _, 0, cv2_fields, rfl, rfl, Tryz.sizeOf74⟩
theorem faCv2_2 : FieldAt 79 2 2 := ⟨_, _, 0, cv2_fields, rfl, rfl, Tryz.sizeOf75⟩
theorem faCv2_3 : FieldAt 79 3 3 := ⟨_, _, 0, cv2_fields, rfl, rfl, Tryz.sizeOf49⟩
theorem faCv2_4 : FieldAt 79 4 4 := ⟨_, _, 0, cv2_fields, rfl, rfl, Tryz.sizeOf48⟩
theorem faCv2_5 : FieldAt 79 5 5 := ⟨_, _, 0, cv2_fields, rfl, rfl, Tryz.sizeOf51⟩
theorem faCv2_6 : FieldAt 79 6 6 := ⟨_, _, 0, cv2_fields, rfl, rfl, Tryz.sizeOf66⟩
theorem faCv2_7 : FieldAt 79 7 7 := ⟨_, _, 0, cv2_fields, rfl, rfl, Tryz.sizeOf76⟩
theorem faCv2_8 : FieldAt 79 8 8 := ⟨_, _, 0, cv2_fields, rfl, rfl, Tryz.sizeOf77⟩
theorem faCv2_9 : FieldAt 79 9 9 := ⟨_, _, 0, cv2_fields, rfl, rfl, Tryz.sizeOf52⟩
theorem faCv2_10 : FieldAt 79 10 10 := ⟨_, _, 0, cv2_fields, rfl, rfl, Tryz.sizeOf52⟩
theorem zCv2 (w : World) : (zeroValue 79).run Tryz.prog w = .ok (sv [.i .i64 0, .v .nilFunc, .v .nilFunc, .v .nilFunc, .v .nilFunc, .v .nilFunc, .v .nilFunc, .v .nilFunc, .v .nilFunc, .v .nilFunc, .v .nilFunc]) w := Tryz.zeroValue79 w
theorem stCv2 : StructS 79 [.i .i64 0, .v .nilFunc, .v .nilFunc, .v .nilFunc, .v .nilFunc, .v .nilFunc, .v .nilFunc, .v .nilFunc, .v .nilFunc, .v .nilFunc, .v .nilFunc] [(0, 1), (1, 1), (2, 1), (3, 1), (4, 1), (5, 1), (6, 1), (7, 1), (8, 1), (9, 1), (10, 1)] := by
  refine ⟨_, cv2_fields, zCv2, fun w => ?_⟩
  simp [Sem.run_bind, Tryz.sizeOf3, Tryz.sizeOf74, Tryz.sizeOf75, Tryz.sizeOf49, Tryz.sizeOf48, Tryz.sizeOf51, Tryz.sizeOf66, Tryz.sizeOf76, Tryz.sizeOf77, Tryz.sizeOf52]
end

section
section
open Go.RowKit
def mark (k : Nat) : List UInt8 → List UInt8
  | [] => []
  | b :: t => UInt8.ofNat (b.toNat + 32 * k) :: t
def kOf : List UInt8 → Nat
  | [] => 0
  | b :: _ => b.toNat / 32
def low : List UInt8 → List UInt8
  | [] => []
  | b :: t => UInt8.ofNat (b.toNat % 32) :: t
def Led (l : List UInt8) : Prop := ∃ b t, l = b :: t ∧ b.toNat < 32
theorem byte_eq {a b : UInt8} (h : a.toNat = b.toNat) : a = b := UInt8.toNat_inj.1 h
theorem low_mark {k : Nat} {l : List UInt8} (h : Led l) (hk : k < 8) : low (mark k l) = l := by
  obtain ⟨b, t, rfl, hb⟩ := h
  show UInt8.ofNat ((UInt8.ofNat (b.toNat + 32 * k)).toNat % 32) :: t = b :: t
  congr 1
  apply byte_eq
  rw [toNat_ofNat (n := b.toNat + 32 * k) (by omega), toNat_ofNat (by omega)]
  omega
theorem kOf_mark {k : Nat} {l : List UInt8} (h : Led l) (hk : k < 8) : kOf (mark k l) = k := by
  obtain ⟨b, t, rfl, hb⟩ := h
  show (UInt8.ofNat (b.toNat + 32 * k)).toNat / 32 = k
  rw [toNat_ofNat (n := b.toNat + 32 * k) (by omega)]
  omega
theorem mark_low (l : List UInt8) : mark (kOf l) (low l) = l := by
  cases l with
  | nil => rfl
  | cons b t =>
    show UInt8.ofNat ((UInt8.ofNat (b.toNat % 32)).toNat + 32 * (b.toNat / 32)) :: t = b :: t
    congr 1
    have hb := UInt8.toNat_lt b
    apply byte_eq
    rw [toNat_ofNat (n := b.toNat % 32) (by omega), toNat_ofNat (by omega)]
    omega
theorem length_mark (k : Nat) (l : List UInt8) : (mark k l).length = l.length := by cases l <;> rfl
theorem length_low (l : List UInt8) : (low l).length = l.length := by cases l <;> rfl
theorem led_be {x : Nat} (h : x < pN) : Led (be 48 x) := by
  obtain ⟨b, t, h1, _, h3, _⟩ := flag_be (m := 47) (v := x) (f := 0) (Nat.lt_trans h p_381) (by decide)
  exact ⟨b, t, h1, h3⟩
theorem led_app {l m : List UInt8} (h : Led l) : Led (l ++ m) := by
  obtain ⟨b, t, rfl, hb⟩ := h
  exact ⟨b, t ++ m, rfl, hb⟩
theorem low_led {l : List UInt8} (h : Led l) : low l = l := by
  obtain ⟨b, t, rfl, hb⟩ := h
  show UInt8.ofNat (b.toNat % 32) :: t = b :: t
  congr 1
  apply byte_eq
  rw [toNat_ofNat (by omega)]
  omega
theorem low_flat {l : List UInt8} (h : kOf l = 0) : low l = l := by
  have := mark_low l
  rw [h] at this
  cases l with
  | nil => rfl
  | cons b t =>
    have hb : b.toNat / 32 = 0 := h
    exact low_led ⟨b, t, rfl, by omega⟩
def f7 (k : Nat) : Bool := k / 4 % 2 == 1
def f6 (k : Nat) : Bool := k / 2 % 2 == 1
def f5 (k : Nat) : Bool := k % 2 == 1
def fk (a b c : Bool) : Nat := (if a then 4 else 0) + (if b then 2 else 0) + (if c then 1 else 0)
theorem fk_lt (a b c : Bool) : fk a b c < 8 := by cases a <;> cases b <;> cases c <;> decide
theorem f7_fk (a b c : Bool) : f7 (fk a b c) = a := by cases a <;> cases b <;> cases c <;> rfl
theorem f6_fk (a b c : Bool) : f6 (fk a b c) = b := by cases a <;> cases b <;> cases c <;> rfl
theorem f5_fk (a b c : Bool) : f5 (fk a b c) = c := by cases a <;> cases b <;> cases c <;> rfl
theorem and_flag (n : Fin 256) : bits .and .u8 (n.val : Int) 128 = (if f7 (n.val / 32) then 128 else 0) ∧ bits .and .u8 (n.val : Int) 64 = (if f6 (n.val / 32) then 64 else 0) ∧ bits .and .u8 (n.val : Int) 32 = (if f5 (n.val / 32) then 32 else 0) := by
  revert n; decide +kernel
theorem no_flag (n : Fin 256) : bits .andNot .u8 (n.val : Int) 224 = ((n.val % 32 : Nat) : Int) := by
  revert n; decide +kernel
theorem or_flag (k : Fin 8) (n : Fin 32) : bits .or .u8 (n.val : Int) ((32 * k.val : Nat) : Int) = ((n.val + 32 * k.val : Nat) : Int) := by
  revert k n; decide +kernel
theorem and_7 (b : UInt8) : bits .and .u8 (b.toNat : Int) 128 = (if f7 (b.toNat / 32) then 128 else 0) := (and_flag ⟨b.toNat, UInt8.toNat_lt b⟩).1
theorem and_6 (b : UInt8) : bits .and .u8 (b.toNat : Int) 64 = (if f6 (b.toNat / 32) then 64 else 0) := (and_flag ⟨b.toNat, UInt8.toNat_lt b⟩).2.1
theorem and_5 (b : UInt8) : bits .and .u8 (b.toNat : Int) 32 = (if f5 (b.toNat / 32) then 32 else 0) := (and_flag ⟨b.toNat, UInt8.toNat_lt b⟩).2.2
theorem no_flags (b : UInt8) : bits .andNot .u8 (b.toNat : Int) 224 = ((b.toNat % 32 : Nat) : Int) := no_flag ⟨b.toNat, UInt8.toNat_lt b⟩
theorem or_flags {n k : Nat} (hn : n < 32) (hk : k < 8) : bits .or .u8 (n : Int) ((32 * k : Nat) : Int) = ((n + 32 * k : Nat) : Int) := or_flag ⟨k, hk⟩ ⟨n, hn⟩
def zeros (l : List UInt8) : Bool := l.all (· == 0)
theorem zeros_rep {l : List UInt8} (h : zeros l = true) : l = List.replicate l.length 0 := by
  induction l with
  | nil => rfl
  | cons b t ih =>
    simp only [zeros, List.all_cons, Bool.and_eq_true, beq_iff_eq] at h
    rw [h.1]
    show _ = 0 :: List.replicate t.length 0
    rw [← ih h.2]
theorem bl_str (l : List UInt8) : bl ⟨l.toArray⟩ = l := by simp [bl]
end

section
open Go.RowKit Cv
set_option maxRecDepth 20000
set_option maxHeartbeats 4000000
theorem ex_blit {ρ : Operand → Value} {d : Option Tmp} {ty0 : TypeId} {pos : String} {after : Array Edge} {guard : Option (Nat × Bool)} {w : World} {x : Operand} {a : Int} (hx : ρ x = .int .u8 a) :
    (execOp ρ ⟨d, .buildSlice 65 1 #[(0, x)], ty0, pos, after, guard⟩).run Tryz.prog w = .ok (.value (.slice (some ⟨w.heap.size, 0, none⟩) 1 1)) (w.alloc (.cells (segs [.i .u8 a]).toArray 5)) := by
  simp [execOp, hx, go_sem]
  rfl
theorem ex_bback {ρ : Operand → Value} {d : Option Tmp} {ty0 : TypeId} {pos : String} {after : Array Edge} {guard : Option (Nat × Bool)} {w : World} {x : Operand} {t : TypeId} {g n : Nat} (hx : ρ x = .slice (some ⟨g, 0, none⟩) 1 1) (hA : Blk t w g (segs [.i .u8 (n : Int)])) (hn : n < 256) :
    (execOp ρ ⟨d, .convert 65 9 x, ty0, pos, after, guard⟩).run Tryz.prog w = .ok (.value (str [UInt8.ofNat n])) w := by
  have h := run_convert_bytes_back (P := Tryz.prog) w 65 9 5 ⟨g, 0, none⟩ 1 [UInt8.ofNat n] Tryz.underlying65 Tryz.underlying5 Tryz.underlying9 (fun j hj => by
    have hj0 : j = 0 := by simpa using hj
    subst hj0
    have hc := hA.cell (i := 0) (show 0 < 1 from Nat.zero_lt_one)
    show w.cell? ⟨g, 0 + 0, none⟩ = some (.int .u8 (((UInt8.ofNat n).toNat : Nat) : Int))
    rw [toNat_ofNat hn]
    exact hc)
  simp [execOp, hx]
  exact (congrArg (fun r => Result.andThen r _) h).trans rfl
theorem ptflag_t (c : Int) (w : World) :
    Calls Tryz.prog 121 #[.int .u8 c, .bool true] w (Is (.int .u8 c) w) := by
  go_enter Tryz.func121, Tryz.ntmps121
  refine rh0 (brf w) [4] [.int .u8 0] ?_ ?_
  · exact stpa .nil
  intro w1 hb1 HB2
  refine wp_seq ?_
  refine rh0 HB2 [5] [.bool true] ?_ ?_
  · exact stpm .nil
  intro w3 hb3 HB4
  refine wp_cond_true rfl ?_
  refine rh0 HB4 [6, 4] [.int .u8 c, .int .u8 c] ?_ ?_
  · refine stpm ?_
    exact stpa .nil
  intro w5 hb5 HB6
  exact wp_ret (th_ret (bodyPost_ret (ret1 Tryz.results121 (res_tmp rfl)) rfl ⟨rfl, HB6⟩))
theorem ptflag_f (c : Int) (w : World) :
    Calls Tryz.prog 121 #[.int .u8 c, .bool false] w (Is (.int .u8 0) w) := by
  go_enter Tryz.func121, Tryz.ntmps121
  refine rh0 (brf w) [4] [.int .u8 0] ?_ ?_
  · exact stpa .nil
  intro w1 hb1 HB2
  refine wp_seq ?_
  refine rh0 HB2 [5] [.bool false] ?_ ?_
  · exact stpm .nil
  intro w3 hb3 HB4
  refine wp_cond_false rfl ?_
  refine wp_skip ?_
  refine th_r ?_
  refine rh0 HB4 [4] [.int .u8 0] ?_ ?_
  · exact stpa .nil
  intro w5 hb5 HB6
  exact wp_ret (bodyPost_ret (ret1 Tryz.results121 (res_tmp rfl)) rfl ⟨rfl, HB6⟩)
theorem ptmarked_v (b : UInt8) (t : List UInt8) (k : Nat) (hb : b.toNat < 32) (hk : k < 8) (ht : t.length ≤ 500) (w : World) :
    Calls Tryz.prog 122 #[str ((b :: t)), .int .u8 ((32 * k : Nat) : Int)] w (Is (str ((UInt8.ofNat (b.toNat + 32 * k) :: t))) w) := by
  go_enter Tryz.func122, Tryz.ntmps122
  refine rh0 (brf w) [4] [str []] ?_ ?_
  · exact stpa .nil
  intro w1 hb1 HB2
  refine rh1 HB2 5 4 [.i .u8 (((b.toNat + 32 * k : Nat) : Int))] [5, 6, 7, 8, 9, 10, 11, 12, 13, 4] (fun γ => [str ((b :: t)), .int .u8 (b.toNat : Int), .int .u8 ((32 * k : Nat) : Int), .int .u8 ((b.toNat + 32 * k : Nat) : Int), .slice (some ⟨γ 0, 0, none⟩) 1 1, str [UInt8.ofNat (b.toNat + 32 * k)], str ((b :: t)), str t, str (UInt8.ofNat (b.toNat + 32 * k) :: t), str (UInt8.ofNat (b.toNat + 32 * k) :: t)]) ?_ ?_
  · refine stpm ?_
    refine stpx (fun _ _ => ex_idxL (l := (b :: t)) 0 rfl rfl rfl) ?_
    refine stpm ?_
    refine stpx (fun _ _ => ex_bitsor rfl rfl _ (or_flags hb hk)) ?_
    refine GSteps.cons (gm_lit 0 rfl (fun n => .slice (some ⟨n, 0, none⟩) 1 1) (fun _ => rfl) (fun _ _ => rfl) (fun γ w h => ex_blit rfl) rfl rfl rfl) ?_
    refine GSteps.cons (gm_read 0 rfl rfl (fun _ => rfl) (fun _ => rfl) (fun γ w h => ex_bback rfl h (by omega)) rfl rfl rfl (by kernel_rfl)) ?_
    refine stpm ?_
    refine stpx (fun _ _ => ex_fromL (l := (b :: t)) 1 rfl rfl (by simp)) ?_
    refine stpx (fun _ _ => ex_catL (a := [UInt8.ofNat (b.toNat + 32 * k)]) (b := t) rfl rfl (by simp; omega)) ?_
    exact stpa .nil
  intro γ3 w3 hb3 _ _ HB5
  exact wp_ret (bodyPost_ret (ret1 Tryz.results122 (res_tmp rfl)) rfl ⟨rfl, HB5⟩)
theorem ptbare_v (b : UInt8) (t : List UInt8) (ht : t.length ≤ 500) (w : World) :
    Calls Tryz.prog 130 #[str ((b :: t))] w (Is (str ((UInt8.ofNat (b.toNat % 32) :: t))) w) := by
  have hb := UInt8.toNat_lt b
  go_enter Tryz.func130, Tryz.ntmps130
  refine rh0 (brf w) [2] [str []] ?_ ?_
  · exact stpa .nil
  intro w1 hb1 HB2
  refine rh1 HB2 5 3 [.i .u8 (((b.toNat % 32 : Nat) : Int))] [3, 4, 5, 6, 7, 8, 9, 10, 2] (fun γ => [str ((b :: t)), .int .u8 (b.toNat : Int), .int .u8 ((b.toNat % 32 : Nat) : Int), .slice (some ⟨γ 0, 0, none⟩) 1 1, str [UInt8.ofNat (b.toNat % 32)], str ((b :: t)), str t, str (UInt8.ofNat (b.toNat % 32) :: t), str (UInt8.ofNat (b.toNat % 32) :: t)]) ?_ ?_
  · refine stpm ?_
    refine stpx (fun _ _ => ex_idxL (l := (b :: t)) 0 rfl rfl rfl) ?_
    refine stpx (fun _ _ => ex_bitsno rfl rfl _ (no_flags b)) ?_
    refine GSteps.cons (gm_lit 0 rfl (fun n => .slice (some ⟨n, 0, none⟩) 1 1) (fun _ => rfl) (fun _ _ => rfl) (fun γ w h => ex_blit rfl) rfl rfl rfl) ?_
    refine GSteps.cons (gm_read 0 rfl rfl (fun _ => rfl) (fun _ => rfl) (fun γ w h => ex_bback rfl h (by omega)) rfl rfl rfl (by kernel_rfl)) ?_
    refine stpm ?_
    refine stpx (fun _ _ => ex_fromL (l := (b :: t)) 1 rfl rfl (by simp)) ?_
    refine stpx (fun _ _ => ex_catL (a := [UInt8.ofNat (b.toNat % 32)]) (b := t) rfl rfl (by simp; omega)) ?_
    exact stpa .nil
  intro γ3 w3 hb3 _ _ HB5
  exact wp_ret (bodyPost_ret (ret1 Tryz.results130 (res_tmp rfl)) rfl ⟨rfl, HB5⟩)
theorem pthas7_v (b : UInt8) (t : List UInt8) (w : World) :
    Calls Tryz.prog 127 #[str ((b :: t)), .int .u8 128] w (Is (.bool ((f7 (b.toNat / 32)))) w) := by
  go_enter Tryz.func127, Tryz.ntmps127
  refine rh0 (brf w) [4] [.bool false] ?_ ?_
  · exact stpa .nil
  intro w1 hb1 HB2
  refine rh0 HB2 [5, 6, 7, 8, 9, 4] [str ((b :: t)), .int .u8 (b.toNat : Int), .int .u8 128, .int .u8 (if f7 (b.toNat / 32) then 128 else 0), .bool ((f7 (b.toNat / 32))), .bool ((f7 (b.toNat / 32)))] ?_ ?_
  · refine stpm ?_
    refine stpx (fun _ _ => ex_idxL (l := (b :: t)) 0 rfl rfl rfl) ?_
    refine stpm ?_
    refine stpx (fun _ _ => ex_bits rfl rfl _ (and_7 b)) ?_
    refine stpx (fun _ _ => ex_neqi rfl rfl (f7 (b.toNat / 32)) (by cases f7 (b.toNat / 32) <;> rfl)) ?_
    exact stpa .nil
  intro w3 hb3 HB4
  exact wp_ret (bodyPost_ret (ret1 Tryz.results127 (res_tmp rfl)) rfl ⟨rfl, HB4⟩)
theorem pthas7_q (l : List UInt8) (hl : l ≠ []) (r : Bool) (hr : f7 (kOf l) = r) (w : World) : Calls Tryz.prog 127 #[str l, .int .u8 128] w (Is (.bool r) w) := by
  subst hr
  cases l with
  | nil => exact absurd rfl hl
  | cons b t => exact pthas7_v b t w
theorem pthas6_v (b : UInt8) (t : List UInt8) (w : World) :
    Calls Tryz.prog 127 #[str ((b :: t)), .int .u8 64] w (Is (.bool ((f6 (b.toNat / 32)))) w) := by
  go_enter Tryz.func127, Tryz.ntmps127
  refine rh0 (brf w) [4] [.bool false] ?_ ?_
  · exact stpa .nil
  intro w1 hb1 HB2
  refine rh0 HB2 [5, 6, 7, 8, 9, 4] [str ((b :: t)), .int .u8 (b.toNat : Int), .int .u8 64, .int .u8 (if f6 (b.toNat / 32) then 64 else 0), .bool ((f6 (b.toNat / 32))), .bool ((f6 (b.toNat / 32)))] ?_ ?_
  · refine stpm ?_
    refine stpx (fun _ _ => ex_idxL (l := (b :: t)) 0 rfl rfl rfl) ?_
    refine stpm ?_
    refine stpx (fun _ _ => ex_bits rfl rfl _ (and_6 b)) ?_
    refine stpx (fun _ _ => ex_neqi rfl rfl (f6 (b.toNat / 32)) (by cases f6 (b.toNat / 32) <;> rfl)) ?_
    exact stpa .nil
  intro w3 hb3 HB4
  exact wp_ret (bodyPost_ret (ret1 Tryz.results127 (res_tmp rfl)) rfl ⟨rfl, HB4⟩)
theorem pthas6_q (l : List UInt8) (hl : l ≠ []) (r : Bool) (hr : f6 (kOf l) = r) (w : World) : Calls Tryz.prog 127 #[str l, .int .u8 64] w (Is (.bool r) w) := by
  subst hr
  cases l with
  | nil => exact absurd rfl hl
  | cons b t => exact pthas6_v b t w
theorem pthas5_v (b : UInt8) (t : List UInt8) (w : World) :
    Calls Tryz.prog 127 #[str ((b :: t)), .int .u8 32] w (Is (.bool ((f5 (b.toNat / 32)))) w) := by
  go_enter Tryz.func127, Tryz.ntmps127
  refine rh0 (brf w) [4] [.bool false] ?_ ?_
  · exact stpa .nil
  intro w1 hb1 HB2
  refine rh0 HB2 [5, 6, 7, 8, 9, 4] [str ((b :: t)), .int .u8 (b.toNat : Int), .int .u8 32, .int .u8 (if f5 (b.toNat / 32) then 32 else 0), .bool ((f5 (b.toNat / 32))), .bool ((f5 (b.toNat / 32)))] ?_ ?_
  · refine stpm ?_
    refine stpx (fun _ _ => ex_idxL (l := (b :: t)) 0 rfl rfl rfl) ?_
    refine stpm ?_
    refine stpx (fun _ _ => ex_bits rfl rfl _ (and_5 b)) ?_
    refine stpx (fun _ _ => ex_neqi rfl rfl (f5 (b.toNat / 32)) (by cases f5 (b.toNat / 32) <;> rfl)) ?_
    exact stpa .nil
  intro w3 hb3 HB4
  exact wp_ret (bodyPost_ret (ret1 Tryz.results127 (res_tmp rfl)) rfl ⟨rfl, HB4⟩)
theorem pthas5_q (l : List UInt8) (hl : l ≠ []) (r : Bool) (hr : f5 (kOf l) = r) (w : World) : Calls Tryz.prog 127 #[str l, .int .u8 32] w (Is (.bool r) w) := by
  subst hr
  cases l with
  | nil => exact absurd rfl hl
  | cons b t => exact pthas5_v b t w
theorem ptmarked_q (l : List UInt8) (h : Led l) (hn : l.length ≤ 500) (k : Nat) (hk : k < 8) (w : World) : Calls Tryz.prog 122 #[str l, .int .u8 ((32 * k : Nat) : Int)] w (Is (str ((mark k l))) w) := by
  obtain ⟨b, t, rfl, hb⟩ := h
  exact ptmarked_v b t k hb hk (by simp at hn; omega) w
theorem ptbare_q (l : List UInt8) (hl : l ≠ []) (hn : l.length ≤ 500) (w : World) : Calls Tryz.prog 130 #[str l] w (Is (str ((low l))) w) := by
  cases l with
  | nil => exact absurd rfl hl
  | cons b t => exact ptbare_v b t (by simp at hn; omega) w
theorem ptflag_64 (i : Bool) (w : World) : Calls Tryz.prog 121 #[.int .u8 64, .bool i] w (Is (.int .u8 ((32 * fk false i false : Nat) : Int)) w) := by
  cases i
  · exact ptflag_f 64 w
  · exact ptflag_t 64 w
theorem ptflag_32 (i : Bool) (w : World) : Calls Tryz.prog 121 #[.int .u8 32, .bool i] w (Is (.int .u8 ((32 * fk false false i : Nat) : Int)) w) := by
  cases i
  · exact ptflag_f 32 w
  · exact ptflag_t 32 w
theorem or_128 (i : Bool) : bits .or .u8 128 ((32 * fk false i false : Nat) : Int) = ((32 * fk true i false : Nat) : Int) := by cases i <;> decide +kernel
theorem or_32 (i h : Bool) : bits .or .u8 ((32 * fk true i false : Nat) : Int) ((32 * fk false false h : Nat) : Int) = ((32 * fk true i h : Nat) : Int) := by cases i <;> cases h <;> decide +kernel
def flagE (k : Nat) (s : Bool) : Int := if (f7 k != s) || (f5 k && (!s || f6 k)) then 32 else 0
theorem ptflags_0000 (l : List UInt8) (hl : l ≠ []) (h7 : f7 (kOf l) = false) (_h6 : f6 (kOf l) = false) (_h5 : f5 (kOf l) = false) (w : World) :
    Calls Tryz.prog 77 #[str l, .bool false] w (Is (.int .i64 0) w) := by
  go_enter Tryz.func77, Tryz.ntmps77
  refine rh0 (brf w) [4] [.int .i64 0] ?_ ?_
  · exact stpa .nil
  intro w1 hb1 HB2
  refine wp_seq ?_
  refine rh0 HB2 [5, 6, 7, 8] [str l, .bool false, .bool false, .bool false] ?_ ?_
  · refine stpm ?_
    refine stpk Tryz.call127 (fun w h => pthas7_q l hl false h7 _) ?_
    refine stpm ?_
    exact stpx (fun _ _ => ex_neqb (a := false) (b := false) Tryz.underlying4 rfl rfl _ rfl) .nil
  intro w3 hb3 HB4
  refine wp_cond_false rfl ?_
  refine wp_skip ?_
  refine th_r ?_
  refine wp_seq ?_
  refine rh0 HB4 [9, 10, 11, 12, 13, 14, 15, 16, 17, 18] [str l, .bool false, .bool false, undef, undef, undef, undef, undef, undef, .bool false] ?_ ?_
  · refine stpm ?_
    refine stpk Tryz.call127 (fun w h => pthas5_q l hl false _h5 _) ?_
    refine stpm ?_
    refine stps ?_
    refine stps ?_
    refine stps ?_
    refine stps ?_
    refine stps ?_
    refine stps ?_
    exact stpx (fun _ _ => ex_pick (r := false) rfl) .nil
  intro w5 hb5 HB6
  refine wp_cond_false rfl ?_
  refine wp_skip ?_
  refine th_r ?_
  refine rh0 HB6 [4] [.int .i64 0] ?_ ?_
  · exact stpa .nil
  intro w7 hb7 HB8
  exact wp_ret (bodyPost_ret (ret1 Tryz.results77 (res_tmp rfl)) rfl ⟨rfl, HB8⟩)
theorem ptflags_0001 (l : List UInt8) (hl : l ≠ []) (h7 : f7 (kOf l) = false) (_h6 : f6 (kOf l) = false) (_h5 : f5 (kOf l) = false) (w : World) :
    Calls Tryz.prog 77 #[str l, .bool true] w (Is (.int .i64 32) w) := by
  go_enter Tryz.func77, Tryz.ntmps77
  refine rh0 (brf w) [4] [.int .i64 0] ?_ ?_
  · exact stpa .nil
  intro w1 hb1 HB2
  refine wp_seq ?_
  refine rh0 HB2 [5, 6, 7, 8] [str l, .bool false, .bool true, .bool true] ?_ ?_
  · refine stpm ?_
    refine stpk Tryz.call127 (fun w h => pthas7_q l hl false h7 _) ?_
    refine stpm ?_
    exact stpx (fun _ _ => ex_neqb (a := false) (b := true) Tryz.underlying4 rfl rfl _ rfl) .nil
  intro w3 hb3 HB4
  refine wp_cond_true rfl ?_
  refine rh0 HB4 [4] [.int .i64 32] ?_ ?_
  · exact stpa .nil
  intro w5 hb5 HB6
  exact wp_ret (th_ret (bodyPost_ret (ret1 Tryz.results77 (res_tmp rfl)) rfl ⟨rfl, HB6⟩))
theorem ptflags_0010 (l : List UInt8) (hl : l ≠ []) (h7 : f7 (kOf l) = false) (_h6 : f6 (kOf l) = false) (_h5 : f5 (kOf l) = true) (w : World) :
    Calls Tryz.prog 77 #[str l, .bool false] w (Is (.int .i64 32) w) := by
  go_enter Tryz.func77, Tryz.ntmps77
  refine rh0 (brf w) [4] [.int .i64 0] ?_ ?_
  · exact stpa .nil
  intro w1 hb1 HB2
  refine wp_seq ?_
  refine rh0 HB2 [5, 6, 7, 8] [str l, .bool false, .bool false, .bool false] ?_ ?_
  · refine stpm ?_
    refine stpk Tryz.call127 (fun w h => pthas7_q l hl false h7 _) ?_
    refine stpm ?_
    exact stpx (fun _ _ => ex_neqb (a := false) (b := false) Tryz.underlying4 rfl rfl _ rfl) .nil
  intro w3 hb3 HB4
  refine wp_cond_false rfl ?_
  refine wp_skip ?_
  refine th_r ?_
  refine wp_seq ?_
  refine rh0 HB4 [9, 10, 11, 12, 13, 14, 15, 16, 17, 18] [str l, .bool true, .bool true, .bool false, .bool true, .bool true, undef, undef, .bool true, .bool true] ?_ ?_
  · refine stpm ?_
    refine stpk Tryz.call127 (fun w h => pthas5_q l hl true _h5 _) ?_
    refine stpm ?_
    refine stpm ?_
    refine stpx (fun _ _ => ex_not (r := false) rfl) ?_
    refine stpm ?_
    refine stps ?_
    refine stps ?_
    refine stpx (fun _ _ => ex_pick (r := true) rfl) ?_
    exact stpx (fun _ _ => ex_pick (r := true) rfl) .nil
  intro w5 hb5 HB6
  refine wp_cond_true rfl ?_
  refine rh0 HB6 [4] [.int .i64 32] ?_ ?_
  · exact stpa .nil
  intro w7 hb7 HB8
  exact wp_ret (th_ret (bodyPost_ret (ret1 Tryz.results77 (res_tmp rfl)) rfl ⟨rfl, HB8⟩))
theorem ptflags_0011 (l : List UInt8) (hl : l ≠ []) (h7 : f7 (kOf l) = false) (_h6 : f6 (kOf l) = false) (_h5 : f5 (kOf l) = true) (w : World) :
    Calls Tryz.prog 77 #[str l, .bool true] w (Is (.int .i64 32) w) := by
  go_enter Tryz.func77, Tryz.ntmps77
  refine rh0 (brf w) [4] [.int .i64 0] ?_ ?_
  · exact stpa .nil
  intro w1 hb1 HB2
  refine wp_seq ?_
  refine rh0 HB2 [5, 6, 7, 8] [str l, .bool false, .bool true, .bool true] ?_ ?_
  · refine stpm ?_
    refine stpk Tryz.call127 (fun w h => pthas7_q l hl false h7 _) ?_
    refine stpm ?_
    exact stpx (fun _ _ => ex_neqb (a := false) (b := true) Tryz.underlying4 rfl rfl _ rfl) .nil
  intro w3 hb3 HB4
  refine wp_cond_true rfl ?_
  refine rh0 HB4 [4] [.int .i64 32] ?_ ?_
  · exact stpa .nil
  intro w5 hb5 HB6
  exact wp_ret (th_ret (bodyPost_ret (ret1 Tryz.results77 (res_tmp rfl)) rfl ⟨rfl, HB6⟩))
theorem ptflags_0100 (l : List UInt8) (hl : l ≠ []) (h7 : f7 (kOf l) = false) (_h6 : f6 (kOf l) = true) (_h5 : f5 (kOf l) = false) (w : World) :
    Calls Tryz.prog 77 #[str l, .bool false] w (Is (.int .i64 0) w) := by
  go_enter Tryz.func77, Tryz.ntmps77
  refine rh0 (brf w) [4] [.int .i64 0] ?_ ?_
  · exact stpa .nil
  intro w1 hb1 HB2
  refine wp_seq ?_
  refine rh0 HB2 [5, 6, 7, 8] [str l, .bool false, .bool false, .bool false] ?_ ?_
  · refine stpm ?_
    refine stpk Tryz.call127 (fun w h => pthas7_q l hl false h7 _) ?_
    refine stpm ?_
    exact stpx (fun _ _ => ex_neqb (a := false) (b := false) Tryz.underlying4 rfl rfl _ rfl) .nil
  intro w3 hb3 HB4
  refine wp_cond_false rfl ?_
  refine wp_skip ?_
  refine th_r ?_
  refine wp_seq ?_
  refine rh0 HB4 [9, 10, 11, 12, 13, 14, 15, 16, 17, 18] [str l, .bool false, .bool false, undef, undef, undef, undef, undef, undef, .bool false] ?_ ?_
  · refine stpm ?_
    refine stpk Tryz.call127 (fun w h => pthas5_q l hl false _h5 _) ?_
    refine stpm ?_
    refine stps ?_
    refine stps ?_
    refine stps ?_
    refine stps ?_
    refine stps ?_
    refine stps ?_
    exact stpx (fun _ _ => ex_pick (r := false) rfl) .nil
  intro w5 hb5 HB6
  refine wp_cond_false rfl ?_
  refine wp_skip ?_
  refine th_r ?_
  refine rh0 HB6 [4] [.int .i64 0] ?_ ?_
  · exact stpa .nil
  intro w7 hb7 HB8
  exact wp_ret (bodyPost_ret (ret1 Tryz.results77 (res_tmp rfl)) rfl ⟨rfl, HB8⟩)
theorem ptflags_0101 (l : List UInt8) (hl : l ≠ []) (h7 : f7 (kOf l) = false) (_h6 : f6 (kOf l) = true) (_h5 : f5 (kOf l) = false) (w : World) :
    Calls Tryz.prog 77 #[str l, .bool true] w (Is (.int .i64 32) w) := by
  go_enter Tryz.func77, Tryz.ntmps77
  refine rh0 (brf w) [4] [.int .i64 0] ?_ ?_
  · exact stpa .nil
  intro w1 hb1 HB2
  refine wp_seq ?_
  refine rh0 HB2 [5, 6, 7, 8] [str l, .bool false, .bool true, .bool true] ?_ ?_
  · refine stpm ?_
    refine stpk Tryz.call127 (fun w h => pthas7_q l hl false h7 _) ?_
    refine stpm ?_
    exact stpx (fun _ _ => ex_neqb (a := false) (b := true) Tryz.underlying4 rfl rfl _ rfl) .nil
  intro w3 hb3 HB4
  refine wp_cond_true rfl ?_
  refine rh0 HB4 [4] [.int .i64 32] ?_ ?_
  · exact stpa .nil
  intro w5 hb5 HB6
  exact wp_ret (th_ret (bodyPost_ret (ret1 Tryz.results77 (res_tmp rfl)) rfl ⟨rfl, HB6⟩))
theorem ptflags_0110 (l : List UInt8) (hl : l ≠ []) (h7 : f7 (kOf l) = false) (_h6 : f6 (kOf l) = true) (_h5 : f5 (kOf l) = true) (w : World) :
    Calls Tryz.prog 77 #[str l, .bool false] w (Is (.int .i64 32) w) := by
  go_enter Tryz.func77, Tryz.ntmps77
  refine rh0 (brf w) [4] [.int .i64 0] ?_ ?_
  · exact stpa .nil
  intro w1 hb1 HB2
  refine wp_seq ?_
  refine rh0 HB2 [5, 6, 7, 8] [str l, .bool false, .bool false, .bool false] ?_ ?_
  · refine stpm ?_
    refine stpk Tryz.call127 (fun w h => pthas7_q l hl false h7 _) ?_
    refine stpm ?_
    exact stpx (fun _ _ => ex_neqb (a := false) (b := false) Tryz.underlying4 rfl rfl _ rfl) .nil
  intro w3 hb3 HB4
  refine wp_cond_false rfl ?_
  refine wp_skip ?_
  refine th_r ?_
  refine wp_seq ?_
  refine rh0 HB4 [9, 10, 11, 12, 13, 14, 15, 16, 17, 18] [str l, .bool true, .bool true, .bool false, .bool true, .bool true, undef, undef, .bool true, .bool true] ?_ ?_
  · refine stpm ?_
    refine stpk Tryz.call127 (fun w h => pthas5_q l hl true _h5 _) ?_
    refine stpm ?_
    refine stpm ?_
    refine stpx (fun _ _ => ex_not (r := false) rfl) ?_
    refine stpm ?_
    refine stps ?_
    refine stps ?_
    refine stpx (fun _ _ => ex_pick (r := true) rfl) ?_
    exact stpx (fun _ _ => ex_pick (r := true) rfl) .nil
  intro w5 hb5 HB6
  refine wp_cond_true rfl ?_
  refine rh0 HB6 [4] [.int .i64 32] ?_ ?_
  · exact stpa .nil
  intro w7 hb7 HB8
  exact wp_ret (th_ret (bodyPost_ret (ret1 Tryz.results77 (res_tmp rfl)) rfl ⟨rfl, HB8⟩))
theorem ptflags_0111 (l : List UInt8) (hl : l ≠ []) (h7 : f7 (kOf l) = false) (_h6 : f6 (kOf l) = true) (_h5 : f5 (kOf l) = true) (w : World) :
    Calls Tryz.prog 77 #[str l, .bool true] w (Is (.int .i64 32) w) := by
  go_enter Tryz.func77, Tryz.ntmps77
  refine rh0 (brf w) [4] [.int .i64 0] ?_ ?_
  · exact stpa .nil
  intro w1 hb1 HB2
  refine wp_seq ?_
  refine rh0 HB2 [5, 6, 7, 8] [str l, .bool false, .bool true, .bool true] ?_ ?_
  · refine stpm ?_
    refine stpk Tryz.call127 (fun w h => pthas7_q l hl false h7 _) ?_
    refine stpm ?_
    exact stpx (fun _ _ => ex_neqb (a := false) (b := true) Tryz.underlying4 rfl rfl _ rfl) .nil
  intro w3 hb3 HB4
  refine wp_cond_true rfl ?_
  refine rh0 HB4 [4] [.int .i64 32] ?_ ?_
  · exact stpa .nil
  intro w5 hb5 HB6
  exact wp_ret (th_ret (bodyPost_ret (ret1 Tryz.results77 (res_tmp rfl)) rfl ⟨rfl, HB6⟩))
theorem ptflags_1000 (l : List UInt8) (hl : l ≠ []) (h7 : f7 (kOf l) = true) (_h6 : f6 (kOf l) = false) (_h5 : f5 (kOf l) = false) (w : World) :
    Calls Tryz.prog 77 #[str l, .bool false] w (Is (.int .i64 32) w) := by
  go_enter Tryz.func77, Tryz.ntmps77
  refine rh0 (brf w) [4] [.int .i64 0] ?_ ?_
  · exact stpa .nil
  intro w1 hb1 HB2
  refine wp_seq ?_
  refine rh0 HB2 [5, 6, 7, 8] [str l, .bool true, .bool false, .bool true] ?_ ?_
  · refine stpm ?_
    refine stpk Tryz.call127 (fun w h => pthas7_q l hl true h7 _) ?_
    refine stpm ?_
    exact stpx (fun _ _ => ex_neqb (a := true) (b := false) Tryz.underlying4 rfl rfl _ rfl) .nil
  intro w3 hb3 HB4
  refine wp_cond_true rfl ?_
  refine rh0 HB4 [4] [.int .i64 32] ?_ ?_
  · exact stpa .nil
  intro w5 hb5 HB6
  exact wp_ret (th_ret (bodyPost_ret (ret1 Tryz.results77 (res_tmp rfl)) rfl ⟨rfl, HB6⟩))
theorem ptflags_1001 (l : List UInt8) (hl : l ≠ []) (h7 : f7 (kOf l) = true) (_h6 : f6 (kOf l) = false) (_h5 : f5 (kOf l) = false) (w : World) :
    Calls Tryz.prog 77 #[str l, .bool true] w (Is (.int .i64 0) w) := by
  go_enter Tryz.func77, Tryz.ntmps77
  refine rh0 (brf w) [4] [.int .i64 0] ?_ ?_
  · exact stpa .nil
  intro w1 hb1 HB2
  refine wp_seq ?_
  refine rh0 HB2 [5, 6, 7, 8] [str l, .bool true, .bool true, .bool false] ?_ ?_
  · refine stpm ?_
    refine stpk Tryz.call127 (fun w h => pthas7_q l hl true h7 _) ?_
    refine stpm ?_
    exact stpx (fun _ _ => ex_neqb (a := true) (b := true) Tryz.underlying4 rfl rfl _ rfl) .nil
  intro w3 hb3 HB4
  refine wp_cond_false rfl ?_
  refine wp_skip ?_
  refine th_r ?_
  refine wp_seq ?_
  refine rh0 HB4 [9, 10, 11, 12, 13, 14, 15, 16, 17, 18] [str l, .bool false, .bool false, undef, undef, undef, undef, undef, undef, .bool false] ?_ ?_
  · refine stpm ?_
    refine stpk Tryz.call127 (fun w h => pthas5_q l hl false _h5 _) ?_
    refine stpm ?_
    refine stps ?_
    refine stps ?_
    refine stps ?_
    refine stps ?_
    refine stps ?_
    refine stps ?_
    exact stpx (fun _ _ => ex_pick (r := false) rfl) .nil
  intro w5 hb5 HB6
  refine wp_cond_false rfl ?_
  refine wp_skip ?_
  refine th_r ?_
  refine rh0 HB6 [4] [.int .i64 0] ?_ ?_
  · exact stpa .nil
  intro w7 hb7 HB8
  exact wp_ret (bodyPost_ret (ret1 Tryz.results77 (res_tmp rfl)) rfl ⟨rfl, HB8⟩)
theorem ptflags_1010 (l : List UInt8) (hl : l ≠ []) (h7 : f7 (kOf l) = true) (_h6 : f6 (kOf l) = false) (_h5 : f5 (kOf l) = true) (w : World) :
    Calls Tryz.prog 77 #[str l, .bool false] w (Is (.int .i64 32) w) := by
  go_enter Tryz.func77, Tryz.ntmps77
  refine rh0 (brf w) [4] [.int .i64 0] ?_ ?_
  · exact stpa .nil
  intro w1 hb1 HB2
  refine wp_seq ?_
  refine rh0 HB2 [5, 6, 7, 8] [str l, .bool true, .bool false, .bool true] ?_ ?_
  · refine stpm ?_
    refine stpk Tryz.call127 (fun w h => pthas7_q l hl true h7 _) ?_
    refine stpm ?_
    exact stpx (fun _ _ => ex_neqb (a := true) (b := false) Tryz.underlying4 rfl rfl _ rfl) .nil
  intro w3 hb3 HB4
  refine wp_cond_true rfl ?_
  refine rh0 HB4 [4] [.int .i64 32] ?_ ?_
  · exact stpa .nil
  intro w5 hb5 HB6
  exact wp_ret (th_ret (bodyPost_ret (ret1 Tryz.results77 (res_tmp rfl)) rfl ⟨rfl, HB6⟩))
theorem ptflags_1011 (l : List UInt8) (hl : l ≠ []) (h7 : f7 (kOf l) = true) (_h6 : f6 (kOf l) = false) (_h5 : f5 (kOf l) = true) (w : World) :
    Calls Tryz.prog 77 #[str l, .bool true] w (Is (.int .i64 0) w) := by
  go_enter Tryz.func77, Tryz.ntmps77
  refine rh0 (brf w) [4] [.int .i64 0] ?_ ?_
  · exact stpa .nil
  intro w1 hb1 HB2
  refine wp_seq ?_
  refine rh0 HB2 [5, 6, 7, 8] [str l, .bool true, .bool true, .bool false] ?_ ?_
  · refine stpm ?_
    refine stpk Tryz.call127 (fun w h => pthas7_q l hl true h7 _) ?_
    refine stpm ?_
    exact stpx (fun _ _ => ex_neqb (a := true) (b := true) Tryz.underlying4 rfl rfl _ rfl) .nil
  intro w3 hb3 HB4
  refine wp_cond_false rfl ?_
  refine wp_skip ?_
  refine th_r ?_
  refine wp_seq ?_
  refine rh0 HB4 [9, 10, 11, 12, 13, 14, 15, 16, 17, 18] [str l, .bool true, .bool true, .bool true, .bool false, .bool false, str l, .bool false, .bool false, .bool false] ?_ ?_
  · refine stpm ?_
    refine stpk Tryz.call127 (fun w h => pthas5_q l hl true _h5 _) ?_
    refine stpm ?_
    refine stpm ?_
    refine stpx (fun _ _ => ex_not (r := true) rfl) ?_
    refine stpm ?_
    refine stpm ?_
    refine stpk Tryz.call127 (fun w h => pthas6_q l hl false _h6 _) ?_
    refine stpx (fun _ _ => ex_pick (r := false) rfl) ?_
    exact stpx (fun _ _ => ex_pick (r := true) rfl) .nil
  intro w5 hb5 HB6
  refine wp_cond_false rfl ?_
  refine wp_skip ?_
  refine th_r ?_
  refine rh0 HB6 [4] [.int .i64 0] ?_ ?_
  · exact stpa .nil
  intro w7 hb7 HB8
  exact wp_ret (bodyPost_ret (ret1 Tryz.results77 (res_tmp rfl)) rfl ⟨rfl, HB8⟩)
theorem ptflags_1100 (l : List UInt8) (hl : l ≠ []) (h7 : f7 (kOf l) = true) (_h6 : f6 (kOf l) = true) (_h5 : f5 (kOf l) = false) (w : World) :
    Calls Tryz.prog 77 #[str l, .bool false] w (Is (.int .i64 32) w) := by
  go_enter Tryz.func77, Tryz.ntmps77
  refine rh0 (brf w) [4] [.int .i64 0] ?_ ?_
  · exact stpa .nil
  intro w1 hb1 HB2
  refine wp_seq ?_
  refine rh0 HB2 [5, 6, 7, 8] [str l, .bool true, .bool false, .bool true] ?_ ?_
  · refine stpm ?_
    refine stpk Tryz.call127 (fun w h => pthas7_q l hl true h7 _) ?_
    refine stpm ?_
    exact stpx (fun _ _ => ex_neqb (a := true) (b := false) Tryz.underlying4 rfl rfl _ rfl) .nil
  intro w3 hb3 HB4
  refine wp_cond_true rfl ?_
  refine rh0 HB4 [4] [.int .i64 32] ?_ ?_
  · exact stpa .nil
  intro w5 hb5 HB6
  exact wp_ret (th_ret (bodyPost_ret (ret1 Tryz.results77 (res_tmp rfl)) rfl ⟨rfl, HB6⟩))
theorem ptflags_1101 (l : List UInt8) (hl : l ≠ []) (h7 : f7 (kOf l) = true) (_h6 : f6 (kOf l) = true) (_h5 : f5 (kOf l) = false) (w : World) :
    Calls Tryz.prog 77 #[str l, .bool true] w (Is (.int .i64 0) w) := by
  go_enter Tryz.func77, Tryz.ntmps77
  refine rh0 (brf w) [4] [.int .i64 0] ?_ ?_
  · exact stpa .nil
  intro w1 hb1 HB2
  refine wp_seq ?_
  refine rh0 HB2 [5, 6, 7, 8] [str l, .bool true, .bool true, .bool false] ?_ ?_
  · refine stpm ?_
    refine stpk Tryz.call127 (fun w h => pthas7_q l hl true h7 _) ?_
    refine stpm ?_
    exact stpx (fun _ _ => ex_neqb (a := true) (b := true) Tryz.underlying4 rfl rfl _ rfl) .nil
  intro w3 hb3 HB4
  refine wp_cond_false rfl ?_
  refine wp_skip ?_
  refine th_r ?_
  refine wp_seq ?_
  refine rh0 HB4 [9, 10, 11, 12, 13, 14, 15, 16, 17, 18] [str l, .bool false, .bool false, undef, undef, undef, undef, undef, undef, .bool false] ?_ ?_
  · refine stpm ?_
    refine stpk Tryz.call127 (fun w h => pthas5_q l hl false _h5 _) ?_
    refine stpm ?_
    refine stps ?_
    refine stps ?_
    refine stps ?_
    refine stps ?_
    refine stps ?_
    refine stps ?_
    exact stpx (fun _ _ => ex_pick (r := false) rfl) .nil
  intro w5 hb5 HB6
  refine wp_cond_false rfl ?_
  refine wp_skip ?_
  refine th_r ?_
  refine rh0 HB6 [4] [.int .i64 0] ?_ ?_
  · exact stpa .nil
  intro w7 hb7 HB8
  exact wp_ret (bodyPost_ret (ret1 Tryz.results77 (res_tmp rfl)) rfl ⟨rfl, HB8⟩)
theorem ptflags_1110 (l : List UInt8) (hl : l ≠ []) (h7 : f7 (kOf l) = true) (_h6 : f6 (kOf l) = true) (_h5 : f5 (kOf l) = true) (w : World) :
    Calls Tryz.prog 77 #[str l, .bool false] w (Is (.int .i64 32) w) := by
  go_enter Tryz.func77, Tryz.ntmps77
  refine rh0 (brf w) [4] [.int .i64 0] ?_ ?_
  · exact stpa .nil
  intro w1 hb1 HB2
  refine wp_seq ?_
  refine rh0 HB2 [5, 6, 7, 8] [str l, .bool true, .bool false, .bool true] ?_ ?_
  · refine stpm ?_
    refine stpk Tryz.call127 (fun w h => pthas7_q l hl true h7 _) ?_
    refine stpm ?_
    exact stpx (fun _ _ => ex_neqb (a := true) (b := false) Tryz.underlying4 rfl rfl _ rfl) .nil
  intro w3 hb3 HB4
  refine wp_cond_true rfl ?_
  refine rh0 HB4 [4] [.int .i64 32] ?_ ?_
  · exact stpa .nil
  intro w5 hb5 HB6
  exact wp_ret (th_ret (bodyPost_ret (ret1 Tryz.results77 (res_tmp rfl)) rfl ⟨rfl, HB6⟩))
theorem ptflags_1111 (l : List UInt8) (hl : l ≠ []) (h7 : f7 (kOf l) = true) (_h6 : f6 (kOf l) = true) (_h5 : f5 (kOf l) = true) (w : World) :
    Calls Tryz.prog 77 #[str l, .bool true] w (Is (.int .i64 32) w) := by
  go_enter Tryz.func77, Tryz.ntmps77
  refine rh0 (brf w) [4] [.int .i64 0] ?_ ?_
  · exact stpa .nil
  intro w1 hb1 HB2
  refine wp_seq ?_
  refine rh0 HB2 [5, 6, 7, 8] [str l, .bool true, .bool true, .bool false] ?_ ?_
  · refine stpm ?_
    refine stpk Tryz.call127 (fun w h => pthas7_q l hl true h7 _) ?_
    refine stpm ?_
    exact stpx (fun _ _ => ex_neqb (a := true) (b := true) Tryz.underlying4 rfl rfl _ rfl) .nil
  intro w3 hb3 HB4
  refine wp_cond_false rfl ?_
  refine wp_skip ?_
  refine th_r ?_
  refine wp_seq ?_
  refine rh0 HB4 [9, 10, 11, 12, 13, 14, 15, 16, 17, 18] [str l, .bool true, .bool true, .bool true, .bool false, .bool false, str l, .bool true, .bool true, .bool true] ?_ ?_
  · refine stpm ?_
    refine stpk Tryz.call127 (fun w h => pthas5_q l hl true _h5 _) ?_
    refine stpm ?_
    refine stpm ?_
    refine stpx (fun _ _ => ex_not (r := true) rfl) ?_
    refine stpm ?_
    refine stpm ?_
    refine stpk Tryz.call127 (fun w h => pthas6_q l hl true _h6 _) ?_
    refine stpx (fun _ _ => ex_pick (r := false) rfl) ?_
    exact stpx (fun _ _ => ex_pick (r := true) rfl) .nil
  intro w5 hb5 HB6
  refine wp_cond_true rfl ?_
  refine rh0 HB6 [4] [.int .i64 32] ?_ ?_
  · exact stpa .nil
  intro w7 hb7 HB8
  exact wp_ret (th_ret (bodyPost_ret (ret1 Tryz.results77 (res_tmp rfl)) rfl ⟨rfl, HB8⟩))
theorem ptflags_q (l : List UInt8) (hl : l ≠ []) (s : Bool) (e : Int) (he : flagE (kOf l) s = e) (w : World) : Calls Tryz.prog 77 #[str l, .bool s] w (Is (.int .i64 e) w) := by
  unfold flagE at he
  cases h7 : f7 (kOf l) with
  | false =>
    cases h6 : f6 (kOf l) with
    | false =>
      cases h5 : f5 (kOf l) with
      | false =>
        cases s with
        | false =>
          rw [h7, h6, h5] at he
          subst he
          exact ptflags_0000 l hl h7 h6 h5 w
        | true =>
          rw [h7, h6, h5] at he
          subst he
          exact ptflags_0001 l hl h7 h6 h5 w
      | true =>
        cases s with
        | false =>
          rw [h7, h6, h5] at he
          subst he
          exact ptflags_0010 l hl h7 h6 h5 w
        | true =>
          rw [h7, h6, h5] at he
          subst he
          exact ptflags_0011 l hl h7 h6 h5 w
    | true =>
      cases h5 : f5 (kOf l) with
      | false =>
        cases s with
        | false =>
          rw [h7, h6, h5] at he
          subst he
          exact ptflags_0100 l hl h7 h6 h5 w
        | true =>
          rw [h7, h6, h5] at he
          subst he
          exact ptflags_0101 l hl h7 h6 h5 w
      | true =>
        cases s with
        | false =>
          rw [h7, h6, h5] at he
          subst he
          exact ptflags_0110 l hl h7 h6 h5 w
        | true =>
          rw [h7, h6, h5] at he
          subst he
          exact ptflags_0111 l hl h7 h6 h5 w
  | true =>
    cases h6 : f6 (kOf l) with
    | false =>
      cases h5 : f5 (kOf l) with
      | false =>
        cases s with
        | false =>
          rw [h7, h6, h5] at he
          subst he
          exact ptflags_1000 l hl h7 h6 h5 w
        | true =>
          rw [h7, h6, h5] at he
          subst he
          exact ptflags_1001 l hl h7 h6 h5 w
      | true =>
        cases s with
        | false =>
          rw [h7, h6, h5] at he
          subst he
          exact ptflags_1010 l hl h7 h6 h5 w
        | true =>
          rw [h7, h6, h5] at he
          subst he
          exact ptflags_1011 l hl h7 h6 h5 w
    | true =>
      cases h5 : f5 (kOf l) with
      | false =>
        cases s with
        | false =>
          rw [h7, h6, h5] at he
          subst he
          exact ptflags_1100 l hl h7 h6 h5 w
        | true =>
          rw [h7, h6, h5] at he
          subst he
          exact ptflags_1101 l hl h7 h6 h5 w
      | true =>
        cases s with
        | false =>
          rw [h7, h6, h5] at he
          subst he
          exact ptflags_1110 l hl h7 h6 h5 w
        | true =>
          rw [h7, h6, h5] at he
          subst he
          exact ptflags_1111 l hl h7 h6 h5 w
end
end
end

section
open Go.RowKit Cv
set_option maxRecDepth 20000
set_option maxHeartbeats 4000000
def cvS1 : List Seg := [.i .i64 48, .v (.func (.func 67) #[] #[]), .v (.func (.func 68) #[] #[]), .v (.func (.func 44) #[] #[]), .v (.func (.func 45) #[] #[]), .v (.func (.func 69) #[] #[]), .v (.func (.func 32) #[] #[]), .v (.func (.func 70) #[] #[]), .v (.func (.func 71) #[] #[]), .v (.func (.func 72) #[] #[]), .v (.func (.func 16) #[] #[])]
theorem pt1first_v (w : World) :
    Calls Tryz.prog 29 #[] w (Is (sv cvS1) w) := by
  go_enter Tryz.func29, Tryz.ntmps29
  refine rh1 (brf w) (63) 0 [.i .i64 0, .v (.nilFunc), .v (.nilFunc), .v (.nilFunc), .v (.nilFunc), .v (.nilFunc), .v (.nilFunc), .v (.nilFunc), .v (.nilFunc), .v (.nilFunc), .v (.nilFunc)] [0] (fun γ => [pz (γ 0)]) ?_ ?_
  · exact stpb 0 (fun γ w h => ex_allocs (l := [.i .i64 0, .v (.nilFunc), .v (.nilFunc), .v (.nilFunc), .v (.nilFunc), .v (.nilFunc), .v (.nilFunc), .v (.nilFunc), .v (.nilFunc), .v (.nilFunc), .v (.nilFunc)]) zCv1) .nil
  intro γ1 w1 hb1 A2 le2 HB3
  refine rhs HB3 le2 1 0 cvS1 [1] [sv cvS1] ?_ ?_
  · refine latv (fun γ w h => ex_builds stCv1 (l := cvS1) (vs := [(0, .int .i64 48), (1, .func (.func 67) #[] #[]), (2, .func (.func 68) #[] #[]), (3, .func (.func 44) #[] #[]), (4, .func (.func 45) #[] #[]), (5, .func (.func 69) #[] #[]), (6, .func (.func 32) #[] #[]), (7, .func (.func 70) #[] #[]), (8, .func (.func 71) #[] #[]), (9, .func (.func 72) #[] #[]), (10, .func (.func 16) #[] #[])]) rfl ((fills_cons 0 1 (m := [.i .i64 48]) (z' := [.i .i64 48, .v (.nilFunc), .v (.nilFunc), .v (.nilFunc), .v (.nilFunc), .v (.nilFunc), .v (.nilFunc), .v (.nilFunc), .v (.nilFunc), .v (.nilFunc), .v (.nilFunc)]) rfl (int_cells .i64 48) rfl rfl rfl rfl).trans ((fills_cons 1 1 (m := [.v (.func (.func 67) #[] #[])]) (z' := [.i .i64 48, .v (.func (.func 67) #[] #[]), .v (.nilFunc), .v (.nilFunc), .v (.nilFunc), .v (.nilFunc), .v (.nilFunc), .v (.nilFunc), .v (.nilFunc), .v (.nilFunc), .v (.nilFunc)]) rfl rfl rfl rfl rfl rfl).trans ((fills_cons 2 1 (m := [.v (.func (.func 68) #[] #[])]) (z' := [.i .i64 48, .v (.func (.func 67) #[] #[]), .v (.func (.func 68) #[] #[]), .v (.nilFunc), .v (.nilFunc), .v (.nilFunc), .v (.nilFunc), .v (.nilFunc), .v (.nilFunc), .v (.nilFunc), .v (.nilFunc)]) rfl rfl rfl rfl rfl rfl).trans ((fills_cons 3 1 (m := [.v (.func (.func 44) #[] #[])]) (z' := [.i .i64 48, .v (.func (.func 67) #[] #[]), .v (.func (.func 68) #[] #[]), .v (.func (.func 44) #[] #[]), .v (.nilFunc), .v (.nilFunc), .v (.nilFunc), .v (.nilFunc), .v (.nilFunc), .v (.nilFunc), .v (.nilFunc)]) rfl rfl rfl rfl rfl rfl).trans ((fills_cons 4 1 (m := [.v (.func (.func 45) #[] #[])]) (z' := [.i .i64 48, .v (.func (.func 67) #[] #[]), .v (.func (.func 68) #[] #[]), .v (.func (.func 44) #[] #[]), .v (.func (.func 45) #[] #[]), .v (.nilFunc), .v (.nilFunc), .v (.nilFunc), .v (.nilFunc), .v (.nilFunc), .v (.nilFunc)]) rfl rfl rfl rfl rfl rfl).trans ((fills_cons 5 1 (m := [.v (.func (.func 69) #[] #[])]) (z' := [.i .i64 48, .v (.func (.func 67) #[] #[]), .v (.func (.func 68) #[] #[]), .v (.func (.func 44) #[] #[]), .v (.func (.func 45) #[] #[]), .v (.func (.func 69) #[] #[]), .v (.nilFunc), .v (.nilFunc), .v (.nilFunc), .v (.nilFunc), .v (.nilFunc)]) rfl rfl rfl rfl rfl rfl).trans ((fills_cons 6 1 (m := [.v (.func (.func 32) #[] #[])]) (z' := [.i .i64 48, .v (.func (.func 67) #[] #[]), .v (.func (.func 68) #[] #[]), .v (.func (.func 44) #[] #[]), .v (.func (.func 45) #[] #[]), .v (.func (.func 69) #[] #[]), .v (.func (.func 32) #[] #[]), .v (.nilFunc), .v (.nilFunc), .v (.nilFunc), .v (.nilFunc)]) rfl rfl rfl rfl rfl rfl).trans ((fills_cons 7 1 (m := [.v (.func (.func 70) #[] #[])]) (z' := [.i .i64 48, .v (.func (.func 67) #[] #[]), .v (.func (.func 68) #[] #[]), .v (.func (.func 44) #[] #[]), .v (.func (.func 45) #[] #[]), .v (.func (.func 69) #[] #[]), .v (.func (.func 32) #[] #[]), .v (.func (.func 70) #[] #[]), .v (.nilFunc), .v (.nilFunc), .v (.nilFunc)]) rfl rfl rfl rfl rfl rfl).trans ((fills_cons 8 1 (m := [.v (.func (.func 71) #[] #[])]) (z' := [.i .i64 48, .v (.func (.func 67) #[] #[]), .v (.func (.func 68) #[] #[]), .v (.func (.func 44) #[] #[]), .v (.func (.func 45) #[] #[]), .v (.func (.func 69) #[] #[]), .v (.func (.func 32) #[] #[]), .v (.func (.func 70) #[] #[]), .v (.func (.func 71) #[] #[]), .v (.nilFunc), .v (.nilFunc)]) rfl rfl rfl rfl rfl rfl).trans ((fills_cons 9 1 (m := [.v (.func (.func 72) #[] #[])]) (z' := [.i .i64 48, .v (.func (.func 67) #[] #[]), .v (.func (.func 68) #[] #[]), .v (.func (.func 44) #[] #[]), .v (.func (.func 45) #[] #[]), .v (.func (.func 69) #[] #[]), .v (.func (.func 32) #[] #[]), .v (.func (.func 70) #[] #[]), .v (.func (.func 71) #[] #[]), .v (.func (.func 72) #[] #[]), .v (.nilFunc)]) rfl rfl rfl rfl rfl rfl).trans ((fills_cons 10 1 (m := [.v (.func (.func 16) #[] #[])]) (z' := cvS1) rfl rfl rfl rfl rfl rfl).trans rfl)))))))))))) ?_
    exact latq 0 11 flCv1.2 A2 .nil
  intro w4 w4_ hb4 hs4 HB8
  have A5 := A2.keep hb4.out
  have A7 := hs4.here 0 11 (l' := cvS1) A5 rfl rfl rfl
  exact wp_ret (bodyPost_ret (ret1 Tryz.results29 (res_sv rfl A7 flCv1 rfl)) rfl ⟨rfl, HB8⟩)
theorem pt1made_v (x : Nat) (y : Nat) (w : World) :
    Calls Tryz.prog 70 #[nv 6 [x], nv 6 [y]] w (Is (sv [.n 6 x, .n 6 y, .b false]) w) := by
  go_enter Tryz.func70, Tryz.ntmps70
  refine rh3 (brf w) 24 0 [.n 6 x] 24 1 [.n 6 y] 26 2 [.n 6 0, .n 6 0, .b false] [2, 3, 4] (fun γ => [pz (γ 0), pz (γ 1), pz (γ 2)]) ?_ ?_
  · refine stpb 0 (fun γ w h => ex_boxsn (K := 6) (l := [x]) rfl) ?_
    refine stpb 1 (fun γ w h => ex_boxsn (K := 6) (l := [y]) rfl) ?_
    exact stpb 2 (fun γ w h => ex_allocs (l := [.n 6 0, .n 6 0, .b false]) zG1) .nil
  intro γ1 w1 hb1 A2 A3 A4 _ _ le4 hn1 HB5
  refine rhs HB5 le4 3 0 [.n 6 x, .n 6 y, .b false] [5, 6, 7] [nv 6 [x], nv 6 [y], sv [.n 6 x, .n 6 y, .b false]] ?_ ?_
  · refine latl 0 1 flFp A2 ?_
    refine latl 0 1 flFp A3 ?_
    refine latv (fun γ w h => ex_builds stG1 (l := [.n 6 x, .n 6 y, .b false]) (vs := [(0, nv 6 [x]), (1, nv 6 [y])]) rfl ((fills_cons 0 1 (m := [.n 6 x]) (z' := [.n 6 x, .n 6 0, .b false]) rfl (nv_cells 6 [x]) rfl rfl rfl rfl).trans ((fills_cons 1 1 (m := [.n 6 y]) (z' := [.n 6 x, .n 6 y, .b false]) rfl (nv_cells 6 [y]) rfl rfl rfl rfl).trans rfl))) ?_
    exact latq 0 3 flG1.2 A4 .nil
  intro w6 w6_ hb6 hs6 HB14
  have A9 := A4.keep hb6.out
  have A13 := hs6.here 0 3 (l' := [.n 6 x, .n 6 y, .b false]) A9 rfl rfl rfl
  exact wp_ret (bodyPost_ret (ret1 Tryz.results70 (res_sv rfl A13 flG1 rfl)) rfl ⟨rfl, HB14⟩)
theorem pt1parts_v (x : Nat) (y : Nat) (i : Bool) (w : World) :
    Calls Tryz.prog 71 #[sv [.n 6 x, .n 6 y, .b i]] w (Is (.tuple #[nv 6 [x], nv 6 [y], .bool i]) w) := by
  go_enter Tryz.func71, Tryz.ntmps71
  refine rh3 (brf w) 26 0 [.n 6 x, .n 6 y, .b i] 24 1 [.n 6 0] 24 2 [.n 6 0] [1, 2, 3, 4] (fun γ => [pz (γ 0), pz (γ 1), pz (γ 2), .bool false]) ?_ ?_
  · refine stpb 0 (fun γ w h => ex_boxs (l := [.n 6 x, .n 6 y, .b i]) rfl) ?_
    refine stpb 1 (fun γ w h => ex_allocsn (K := 6) (l := [0]) zFp) ?_
    refine stpb 2 (fun γ w h => ex_allocsn (K := 6) (l := [0]) zFp) ?_
    exact stpa .nil
  intro γ1 w1 hb1 A2 A3 A4 _ le3 le4 hn1 HB5
  refine wp_seq (region_m2 (F := fun _ => ⟨#[sv [.n 6 x, .n 6 y, .b i], pz (γ1 0), pz (γ1 1), pz (γ1 2), .bool i, pz (γ1 0), nv 6 [x], pq (γ1 0) 6, nv 6 [y], pq (γ1 0) 12, .bool i], []⟩) 6 ((γ1 1)) 0 (segs [.n 6 x]) 7 ((γ1 2)) 0 (segs [.n 6 y]) 0 (fun _ => 0) (fun _ => 0) (fun _ => 0) (fun _ => []) (fun _ => []) [5, 6, 7, 8, 9, 10, 4] (.inl ⟨rfl, by kernel_rfl⟩) (by kernel_rfl) rfl rfl rfl ?_ ?_)
  · refine GSteps.cons (late_step (late_step (gm_valg (fun γ => pz (γ1 0)) rfl (fun _ => rfl) (fun _ => rfl) (fun γ w h => ex_field faG1_0 rfl) rfl) (by kernel_rfl) rfl) (by kernel_rfl) rfl) ?_
    refine GSteps.cons (late_step (late_step (gm_val (v := nv 6 [x]) rfl (fun _ => rfl) (fun _ => rfl) (fun γ w h => ex_loadsn (K := 6) 0 1 (m := [x]) flFp rfl rfl (A2.keep h.out) rfl rfl) rfl) (by kernel_rfl) rfl) (by kernel_rfl) rfl) ?_
    refine GSteps.cons (late_any2 (v := pq (γ1 0) 6) rfl (fun _ => rfl) (fun _ => rfl) (fun γ w h => ex_field faG1_1 rfl) rfl rfl rfl) ?_
    refine GSteps.cons (late_any2 (v := nv 6 [y]) rfl (fun _ => rfl) (fun _ => rfl) (fun γ w h => ex_loadsn (K := 6) 1 1 (m := [y]) flFp rfl rfl (h _ _ _ (hn1 0 1 (by decide) (by decide) (by decide)) (hn1 0 2 (by decide) (by decide) (by decide)) A2) rfl rfl) rfl rfl rfl) ?_
    refine GSteps.cons (late_any2 (v := pq (γ1 0) 12) rfl (fun _ => rfl) (fun _ => rfl) (fun γ w h => ex_field faG1_2 rfl) rfl rfl rfl) ?_
    refine GSteps.cons (late_any2 (v := .bool i) rfl (fun _ => rfl) (fun _ => rfl) (fun γ w h => ex_load1 2 (s := .b i) (v := .bool i) sgBool rfl (h _ _ _ (hn1 0 1 (by decide) (by decide) (by decide)) (hn1 0 2 (by decide) (by decide) (by decide)) A2) rfl rfl rfl) rfl rfl rfl) ?_
    refine GSteps.cons (late_step (late_store rfl (fun _ => rfl) (fun γ w h => ex_stores 0 1 (l := [.n 6 0]) (m := [.n 6 x]) flFp.2 rfl rfl rfl (nv_cells 6 [x]) (A3.keep h.out) rfl rfl) rfl) (by kernel_rfl) rfl) ?_
    refine GSteps.cons (late_store2 rfl (fun _ => rfl) (fun γ w w1 h hs => ex_stores 0 1 (l := [.n 6 0]) (m := [.n 6 y]) flFp.2 rfl rfl rfl (nv_cells 6 [y]) (hs.other (Ne.symm (hn1 1 2 (by decide) (by decide) (by decide))) (A4.keep h.out)) rfl rfl) rfl rfl rfl (by kernel_rfl)) ?_
    refine GSteps.cons (late_any2 (v := .bool i) rfl (fun _ => rfl) (fun _ => rfl) (fun γ w h => ex_assign _) rfl rfl rfl) ?_
    exact GSteps.nil
  intro _ w6 w6_ w6__ hb6 _ _ hs6 hs6_
  refine th_r ?_
  have A8 := A3.keep hb6.out
  have A9 := A4.keep hb6.out
  have HB10 := below_then HB5 hb6.out
  have A12 := hs6.here 0 1 (l' := [.n 6 x]) A8 rfl rfl rfl
  have A13 := hs6.other (Ne.symm (hn1 1 2 (by decide) (by decide) (by decide))) A9
  have HB14 := hs6.below HB10 (Nat.le_trans (Nat.le_refl _) le3)
  have A16 := hs6_.other (hn1 1 2 (by decide) (by decide) (by decide)) A12
  have A17 := hs6_.here 0 1 (l' := [.n 6 y]) A13 rfl rfl rfl
  have HB18 := hs6_.below HB14 (Nat.le_trans (Nat.le_refl _) le4)
  exact wp_ret (bodyPost_ret (ret3 Tryz.results71 (res_nv (K := 6) (l := [x]) rfl A16 flFp rfl) (res_nv (K := 6) (l := [y]) rfl A17 flFp rfl) (res_tmp rfl)) rfl ⟨rfl, HB18⟩)
theorem pt1check_no (x : Nat) (y : Nat) (i : Bool) (hx : x < fpB) (hy : y < fpB) (h0 : ¬ RawOk x y i) (w : World) :
    Calls Tryz.prog 81 #[sv cvS1, sv [.n 6 x, .n 6 y, .b i]] w (Is (.int .i64 30) w) := by
  go_enter Tryz.func81, Tryz.ntmps81
  refine rh2 (brf w) (63) 0 cvS1 26 1 [.n 6 x, .n 6 y, .b i] [2, 3, 4] (fun γ => [pz (γ 0), pz (γ 1), .int .i64 0]) ?_ ?_
  · refine stpb 0 (fun γ w h => ex_boxs (l := cvS1) rfl) ?_
    refine stpb 1 (fun γ w h => ex_boxs (l := [.n 6 x, .n 6 y, .b i]) rfl) ?_
    exact stpa .nil
  intro γ1 w1 hb1 A2 A3 _ _ hn1 HB4
  refine wp_seq ?_
  refine rh0 HB4 [5, 6, 7, 8, 9] [pq (γ1 0) 9, .func (.func 72) #[] #[], sv [.n 6 x, .n 6 y, .b i], .bool false, .bool true] ?_ ?_
  · refine stpx (fun _ _ => ex_field faCv1_9 rfl) ?_
    refine stpv (fun γ w h => ex_load1 9 (s := .v (.func (.func 72) #[] #[])) (v := .func (.func 72) #[] #[]) sgT11 rfl (A2.keep h.out) rfl rfl rfl) ?_
    refine stpv (fun γ w h => ex_loads 0 3 (m := [.n 6 x, .n 6 y, .b i]) flG1 rfl rfl (A3.keep h.out) rfl rfl) ?_
    refine stpk Tryz.call72 (fun w h => oneRight_no hx hy h0 _) ?_
    exact stpx (fun _ _ => ex_not (r := false) rfl) .nil
  intro w5 hb5 HB8
  refine wp_cond_true rfl ?_
  refine rh0 HB8 [4] [.int .i64 30] ?_ ?_
  · exact stpa .nil
  intro w9 hb9 HB12
  exact wp_ret (th_ret (bodyPost_ret (ret1 Tryz.results81 (res_tmp rfl)) rfl ⟨rfl, HB12⟩))
theorem pt1check_out (P : E1) (hT : EP.times C1 rN P ≠ EP.zero) (w : World) :
    Calls Tryz.prog 81 #[sv cvS1, sv [.n 6 (ax P.pt), .n 6 (ay P.pt), .b (ai P.pt)]] w (Is (.int .i64 31) w) := by
  go_enter Tryz.func81, Tryz.ntmps81
  refine rh2 (brf w) (63) 0 cvS1 26 1 [.n 6 (ax P.pt), .n 6 (ay P.pt), .b (ai P.pt)] [2, 3, 4] (fun γ => [pz (γ 0), pz (γ 1), .int .i64 0]) ?_ ?_
  · refine stpb 0 (fun γ w h => ex_boxs (l := cvS1) rfl) ?_
    refine stpb 1 (fun γ w h => ex_boxs (l := [.n 6 (ax P.pt), .n 6 (ay P.pt), .b (ai P.pt)]) rfl) ?_
    exact stpa .nil
  intro γ1 w1 hb1 A2 A3 _ _ hn1 HB4
  refine wp_seq ?_
  refine rh0 HB4 [5, 6, 7, 8, 9] [pq (γ1 0) 9, .func (.func 72) #[] #[], sv [.n 6 (ax P.pt), .n 6 (ay P.pt), .b (ai P.pt)], .bool true, .bool false] ?_ ?_
  · refine stpx (fun _ _ => ex_field faCv1_9 rfl) ?_
    refine stpv (fun γ w h => ex_load1 9 (s := .v (.func (.func 72) #[] #[])) (v := .func (.func 72) #[] #[]) sgT11 rfl (A2.keep h.out) rfl rfl rfl) ?_
    refine stpv (fun γ w h => ex_loads 0 3 (m := [.n 6 (ax P.pt), .n 6 (ay P.pt), .b (ai P.pt)]) flG1 rfl rfl (A3.keep h.out) rfl rfl) ?_
    refine stpk Tryz.call72 (fun w h => oneRight_p P _) ?_
    exact stpx (fun _ _ => ex_not (r := true) rfl) .nil
  intro w5 hb5 HB8
  have A6 := A2.keep hb5.out
  have A7 := A3.keep hb5.out
  refine wp_cond_false rfl ?_
  refine wp_skip ?_
  refine th_r ?_
  refine wp_seq ?_
  refine rh0 HB8 [10, 11, 12, 13, 14] [pq (γ1 0) 10, .func (.func 16) #[] #[], sv [.n 6 (ax P.pt), .n 6 (ay P.pt), .b (ai P.pt)], .bool false, .bool true] ?_ ?_
  · refine stpx (fun _ _ => ex_field faCv1_10 rfl) ?_
    refine stpv (fun γ w h => ex_load1 10 (s := .v (.func (.func 16) #[] #[])) (v := .func (.func 16) #[] #[]) sgT11 rfl (A6.keep h.out) rfl rfl rfl) ?_
    refine stpv (fun γ w h => ex_loads 0 3 (m := [.n 6 (ax P.pt), .n 6 (ay P.pt), .b (ai P.pt)]) flG1 rfl rfl (A7.keep h.out) rfl rfl) ?_
    refine stpk Tryz.call16 (fun w h => oneGroup_q P false ⟨fun e => Bool.noConfusion e, fun e => absurd e hT⟩ _) ?_
    exact stpx (fun _ _ => ex_not (r := false) rfl) .nil
  intro w9 hb9 HB12
  refine wp_cond_true rfl ?_
  refine rh0 HB12 [4] [.int .i64 31] ?_ ?_
  · exact stpa .nil
  intro w13 hb13 HB16
  exact wp_ret (th_ret (bodyPost_ret (ret1 Tryz.results81 (res_tmp rfl)) rfl ⟨rfl, HB16⟩))
theorem pt1check_in (P : E1) (hT : EP.times C1 rN P = EP.zero) (w : World) :
    Calls Tryz.prog 81 #[sv cvS1, sv [.n 6 (ax P.pt), .n 6 (ay P.pt), .b (ai P.pt)]] w (Is (.int .i64 0) w) := by
  go_enter Tryz.func81, Tryz.ntmps81
  refine rh2 (brf w) (63) 0 cvS1 26 1 [.n 6 (ax P.pt), .n 6 (ay P.pt), .b (ai P.pt)] [2, 3, 4] (fun γ => [pz (γ 0), pz (γ 1), .int .i64 0]) ?_ ?_
  · refine stpb 0 (fun γ w h => ex_boxs (l := cvS1) rfl) ?_
    refine stpb 1 (fun γ w h => ex_boxs (l := [.n 6 (ax P.pt), .n 6 (ay P.pt), .b (ai P.pt)]) rfl) ?_
    exact stpa .nil
  intro γ1 w1 hb1 A2 A3 _ _ hn1 HB4
  refine wp_seq ?_
  refine rh0 HB4 [5, 6, 7, 8, 9] [pq (γ1 0) 9, .func (.func 72) #[] #[], sv [.n 6 (ax P.pt), .n 6 (ay P.pt), .b (ai P.pt)], .bool true, .bool false] ?_ ?_
  · refine stpx (fun _ _ => ex_field faCv1_9 rfl) ?_
    refine stpv (fun γ w h => ex_load1 9 (s := .v (.func (.func 72) #[] #[])) (v := .func (.func 72) #[] #[]) sgT11 rfl (A2.keep h.out) rfl rfl rfl) ?_
    refine stpv (fun γ w h => ex_loads 0 3 (m := [.n 6 (ax P.pt), .n 6 (ay P.pt), .b (ai P.pt)]) flG1 rfl rfl (A3.keep h.out) rfl rfl) ?_
    refine stpk Tryz.call72 (fun w h => oneRight_p P _) ?_
    exact stpx (fun _ _ => ex_not (r := true) rfl) .nil
  intro w5 hb5 HB8
  have A6 := A2.keep hb5.out
  have A7 := A3.keep hb5.out
  refine wp_cond_false rfl ?_
  refine wp_skip ?_
  refine th_r ?_
  refine wp_seq ?_
  refine rh0 HB8 [10, 11, 12, 13, 14] [pq (γ1 0) 10, .func (.func 16) #[] #[], sv [.n 6 (ax P.pt), .n 6 (ay P.pt), .b (ai P.pt)], .bool true, .bool false] ?_ ?_
  · refine stpx (fun _ _ => ex_field faCv1_10 rfl) ?_
    refine stpv (fun γ w h => ex_load1 10 (s := .v (.func (.func 16) #[] #[])) (v := .func (.func 16) #[] #[]) sgT11 rfl (A6.keep h.out) rfl rfl rfl) ?_
    refine stpv (fun γ w h => ex_loads 0 3 (m := [.n 6 (ax P.pt), .n 6 (ay P.pt), .b (ai P.pt)]) flG1 rfl rfl (A7.keep h.out) rfl rfl) ?_
    refine stpk Tryz.call16 (fun w h => oneGroup_q P true ⟨fun _ => hT, fun _ => rfl⟩ _) ?_
    exact stpx (fun _ _ => ex_not (r := true) rfl) .nil
  intro w9 hb9 HB12
  refine wp_cond_false rfl ?_
  refine wp_skip ?_
  refine th_r ?_
  refine rh0 HB12 [4] [.int .i64 0] ?_ ?_
  · exact stpa .nil
  intro w13 hb13 HB16
  exact wp_ret (bodyPost_ret (ret1 Tryz.results81 (res_tmp rfl)) rfl ⟨rfl, HB16⟩)
theorem fpPut_l (a : Nat) (ha : a < pN) (w : World) : Calls Tryz.prog 67 #[nv 6 [a]] w (Is (str ((be 48 a))) w) := by
  rw [nv6]
  have h := fpPut_v a w (Nat.lt_trans ha fpM_lt)
  rw [Nat.mod_eq_of_lt ha] at h
  exact h
theorem pt1put_nom (x : Nat) (y : Nat) (i : Bool) (hx : x < fpB) (hy : y < fpB) (h0 : ¬ RawOk x y i) (w : World) :
    Calls Tryz.prog 63 #[sv cvS1, sv [.n 6 x, .n 6 y, .b i]] w (Is (.tuple #[str [], .int .i64 30]) w) := by
  go_enter Tryz.func63, Tryz.ntmps63
  refine rh2 (brf w) (63) 0 cvS1 26 1 [.n 6 x, .n 6 y, .b i] [2, 3, 4, 5] (fun γ => [pz (γ 0), pz (γ 1), str [], .int .i64 0]) ?_ ?_
  · refine stpb 0 (fun γ w h => ex_boxs (l := cvS1) rfl) ?_
    refine stpb 1 (fun γ w h => ex_boxs (l := [.n 6 x, .n 6 y, .b i]) rfl) ?_
    refine stpa ?_
    exact stpa .nil
  intro γ1 w1 hb1 A2 A3 _ _ hn1 HB4
  refine wp_seq ?_
  refine rh0 HB4 [11, 12, 13, 6] [sv cvS1, sv [.n 6 x, .n 6 y, .b i], .int .i64 30, .int .i64 30] ?_ ?_
  · refine stpv (fun γ w h => ex_loads 0 11 (m := cvS1) flCv1 rfl rfl (A2.keep h.out) rfl rfl) ?_
    refine stpv (fun γ w h => ex_loads 0 3 (m := [.n 6 x, .n 6 y, .b i]) flG1 rfl rfl (A3.keep h.out) rfl rfl) ?_
    refine stpk Tryz.call81 (fun w h => pt1check_no x y i hx hy h0 _) ?_
    exact stpa .nil
  intro w5 hb5 HB8
  refine rh0 HB8 [14, 15] [.int .i64 30, .bool true] ?_ ?_
  · refine stpm ?_
    exact stpx (fun _ _ => ex_neqi rfl rfl _ rfl) .nil
  intro w9 hb9 HB12
  refine wp_cond_true rfl ?_
  refine rh0 HB12 [16, 4, 5] [.int .i64 30, str [], .int .i64 30] ?_ ?_
  · refine stpm ?_
    refine stpa ?_
    exact stpa .nil
  intro w13 hb13 HB16
  exact wp_ret (th_ret (bodyPost_ret (ret2 Tryz.results63 (res_tmp rfl) (res_tmp rfl)) rfl ⟨rfl, HB16⟩))
theorem pt1put_no (x : Nat) (y : Nat) (i : Bool) (hx : x < fpB) (hy : y < fpB) (h0 : ¬ RawOk x y i) (w : World) :
    Calls Tryz.prog 25 #[sv [.n 6 x, .n 6 y, .b i]] w (Is (.tuple #[str [], .int .i64 30]) w) := by
  go_enter Tryz.func25, Tryz.ntmps25
  refine rh1 (brf w) 26 0 [.n 6 x, .n 6 y, .b i] [1, 2, 3] (fun γ => [pz (γ 0), str [], .int .i64 0]) ?_ ?_
  · refine stpb 0 (fun γ w h => ex_boxs (l := [.n 6 x, .n 6 y, .b i]) rfl) ?_
    refine stpa ?_
    exact stpa .nil
  intro γ1 w1 hb1 A2 _ HB3
  refine rh0 HB3 [4, 5, 6, 7, 8, 2, 3] [sv cvS1, sv [.n 6 x, .n 6 y, .b i], .tuple #[str [], .int .i64 30], str [], .int .i64 30, str [], .int .i64 30] ?_ ?_
  · refine stpk Tryz.call29 (fun w h => pt1first_v _) ?_
    refine stpv (fun γ w h => ex_loads 0 3 (m := [.n 6 x, .n 6 y, .b i]) flG1 rfl rfl (A2.keep h.out) rfl rfl) ?_
    refine stpk Tryz.call63 (fun w h => pt1put_nom x y i hx hy h0 _) ?_
    refine stpx (fun _ _ => ex_extract rfl rfl) ?_
    refine stpx (fun _ _ => ex_extract rfl rfl) ?_
    refine stpa ?_
    exact stpa .nil
  intro w4 hb4 HB6
  exact wp_ret (bodyPost_ret (ret2 Tryz.results25 (res_tmp rfl) (res_tmp rfl)) rfl ⟨rfl, HB6⟩)
theorem pt1put_outm (P : E1) (hT : EP.times C1 rN P ≠ EP.zero) (w : World) :
    Calls Tryz.prog 63 #[sv cvS1, sv [.n 6 (ax P.pt), .n 6 (ay P.pt), .b (ai P.pt)]] w (Is (.tuple #[str [], .int .i64 31]) w) := by
  go_enter Tryz.func63, Tryz.ntmps63
  refine rh2 (brf w) (63) 0 cvS1 26 1 [.n 6 (ax P.pt), .n 6 (ay P.pt), .b (ai P.pt)] [2, 3, 4, 5] (fun γ => [pz (γ 0), pz (γ 1), str [], .int .i64 0]) ?_ ?_
  · refine stpb 0 (fun γ w h => ex_boxs (l := cvS1) rfl) ?_
    refine stpb 1 (fun γ w h => ex_boxs (l := [.n 6 (ax P.pt), .n 6 (ay P.pt), .b (ai P.pt)]) rfl) ?_
    refine stpa ?_
    exact stpa .nil
  intro γ1 w1 hb1 A2 A3 _ _ hn1 HB4
  refine wp_seq ?_
  refine rh0 HB4 [11, 12, 13, 6] [sv cvS1, sv [.n 6 (ax P.pt), .n 6 (ay P.pt), .b (ai P.pt)], .int .i64 31, .int .i64 31] ?_ ?_
  · refine stpv (fun γ w h => ex_loads 0 11 (m := cvS1) flCv1 rfl rfl (A2.keep h.out) rfl rfl) ?_
    refine stpv (fun γ w h => ex_loads 0 3 (m := [.n 6 (ax P.pt), .n 6 (ay P.pt), .b (ai P.pt)]) flG1 rfl rfl (A3.keep h.out) rfl rfl) ?_
    refine stpk Tryz.call81 (fun w h => pt1check_out P hT _) ?_
    exact stpa .nil
  intro w5 hb5 HB8
  refine rh0 HB8 [14, 15] [.int .i64 31, .bool true] ?_ ?_
  · refine stpm ?_
    exact stpx (fun _ _ => ex_neqi rfl rfl _ rfl) .nil
  intro w9 hb9 HB12
  refine wp_cond_true rfl ?_
  refine rh0 HB12 [16, 4, 5] [.int .i64 31, str [], .int .i64 31] ?_ ?_
  · refine stpm ?_
    refine stpa ?_
    exact stpa .nil
  intro w13 hb13 HB16
  exact wp_ret (th_ret (bodyPost_ret (ret2 Tryz.results63 (res_tmp rfl) (res_tmp rfl)) rfl ⟨rfl, HB16⟩))
theorem pt1put_out (P : E1) (hT : EP.times C1 rN P ≠ EP.zero) (w : World) :
    Calls Tryz.prog 25 #[sv [.n 6 (ax P.pt), .n 6 (ay P.pt), .b (ai P.pt)]] w (Is (.tuple #[str [], .int .i64 31]) w) := by
  go_enter Tryz.func25, Tryz.ntmps25
  refine rh1 (brf w) 26 0 [.n 6 (ax P.pt), .n 6 (ay P.pt), .b (ai P.pt)] [1, 2, 3] (fun γ => [pz (γ 0), str [], .int .i64 0]) ?_ ?_
  · refine stpb 0 (fun γ w h => ex_boxs (l := [.n 6 (ax P.pt), .n 6 (ay P.pt), .b (ai P.pt)]) rfl) ?_
    refine stpa ?_
    exact stpa .nil
  intro γ1 w1 hb1 A2 _ HB3
  refine rh0 HB3 [4, 5, 6, 7, 8, 2, 3] [sv cvS1, sv [.n 6 (ax P.pt), .n 6 (ay P.pt), .b (ai P.pt)], .tuple #[str [], .int .i64 31], str [], .int .i64 31, str [], .int .i64 31] ?_ ?_
  · refine stpk Tryz.call29 (fun w h => pt1first_v _) ?_
    refine stpv (fun γ w h => ex_loads 0 3 (m := [.n 6 (ax P.pt), .n 6 (ay P.pt), .b (ai P.pt)]) flG1 rfl rfl (A2.keep h.out) rfl rfl) ?_
    refine stpk Tryz.call63 (fun w h => pt1put_outm P hT _) ?_
    refine stpx (fun _ _ => ex_extract rfl rfl) ?_
    refine stpx (fun _ _ => ex_extract rfl rfl) ?_
    refine stpa ?_
    exact stpa .nil
  intro w4 hb4 HB6
  exact wp_ret (bodyPost_ret (ret2 Tryz.results25 (res_tmp rfl) (res_tmp rfl)) rfl ⟨rfl, HB6⟩)
theorem pt1put_in_m (x : Nat) (y : Nat) (i : Bool) (hC : CI 81 #[sv cvS1, sv [.n 6 x, .n 6 y, .b i]] (.int .i64 0)) (X : List UInt8) (hX : CI 67 #[nv 6 [x]] (str X)) (hL : Led X) (hn : X.length ≤ 200) (u : Bool) (hH : CI 44 #[nv 6 [y]] (.bool u)) (w : World) :
    Calls Tryz.prog 63 #[sv cvS1, sv [.n 6 x, .n 6 y, .b i]] w (Is (.tuple #[str ((mark (fk true i u) X)), .int .i64 0]) w) := by
  go_enter Tryz.func63, Tryz.ntmps63
  refine rh2 (brf w) (63) 0 cvS1 26 1 [.n 6 x, .n 6 y, .b i] [2, 3, 4, 5] (fun γ => [pz (γ 0), pz (γ 1), str [], .int .i64 0]) ?_ ?_
  · refine stpb 0 (fun γ w h => ex_boxs (l := cvS1) rfl) ?_
    refine stpb 1 (fun γ w h => ex_boxs (l := [.n 6 x, .n 6 y, .b i]) rfl) ?_
    refine stpa ?_
    exact stpa .nil
  intro γ1 w1 hb1 A2 A3 _ _ hn1 HB4
  refine wp_seq ?_
  refine rh0 HB4 [11, 12, 13, 6] [sv cvS1, sv [.n 6 x, .n 6 y, .b i], .int .i64 0, .int .i64 0] ?_ ?_
  · refine stpv (fun γ w h => ex_loads 0 11 (m := cvS1) flCv1 rfl rfl (A2.keep h.out) rfl rfl) ?_
    refine stpv (fun γ w h => ex_loads 0 3 (m := [.n 6 x, .n 6 y, .b i]) flG1 rfl rfl (A3.keep h.out) rfl rfl) ?_
    refine stpk Tryz.call81 (fun w h => hC _) ?_
    exact stpa .nil
  intro w5 hb5 HB8
  have A6 := A2.keep hb5.out
  have A7 := A3.keep hb5.out
  refine rh0 HB8 [14, 15] [.int .i64 0, .bool false] ?_ ?_
  · refine stpm ?_
    exact stpx (fun _ _ => ex_neqi rfl rfl _ rfl) .nil
  intro w9 hb9 HB12
  have A10 := A6.keep hb9.out
  have A11 := A7.keep hb9.out
  refine wp_cond_false rfl ?_
  refine wp_skip ?_
  refine th_r ?_
  refine rhc HB12 [(24, 8, 10, [.n 6 0], [.n 6 x]), (24, 9, 11, [.n 6 0], [.n 6 y])] [18, 19, 20, 21, 17, 22, 23, 24, 7, 8, 9] (fun γ => [pq (γ1 0) 8, .func (.func 71) #[] #[], sv [.n 6 x, .n 6 y, .b i], .tuple #[nv 6 [x], nv 6 [y], .bool i], .tuple #[nv 6 [x], nv 6 [y], .bool i], nv 6 [x], nv 6 [y], .bool i, pz (γ 0), pz (γ 1), .bool i]) ?_ ?_
  · refine stpx (fun _ _ => ex_field faCv1_8 rfl) ?_
    refine stpv (fun γ w h => ex_load1 8 (s := .v (.func (.func 71) #[] #[])) (v := .func (.func 71) #[] #[]) sgT10 rfl (A10.keep h.out) rfl rfl rfl) ?_
    refine stpv (fun γ w h => ex_loads 0 3 (m := [.n 6 x, .n 6 y, .b i]) flG1 rfl rfl (A11.keep h.out) rfl rfl) ?_
    refine stpk Tryz.call71 (fun w h => pt1parts_v x y i _) ?_
    refine stpm ?_
    refine stpx (fun _ _ => ex_extract rfl rfl) ?_
    refine stpx (fun _ _ => ex_extract rfl rfl) ?_
    refine stpx (fun _ _ => ex_extract rfl rfl) ?_
    refine stpn 0 (fun γ w => ex_allocsn (K := 6) (l := [0]) zFp) ?_
    refine stpn 1 (fun γ w => ex_allocsn (K := 6) (l := [0]) zFp) ?_
    refine stpo 0 0 1 flFp.2 (nv_cells 6 [x]) ?_
    refine stpo 1 0 1 flFp.2 (nv_cells 6 [y]) ?_
    exact stpa .nil
  intro γ13 w13 hb13 hB13 hn13 HB18
  have A14 := A10.keep hb13.out
  have A16 : SB 24 w13 (γ13 0) [.n 6 x] := (hB13 0 rfl).2
  have A17 : SB 24 w13 (γ13 1) [.n 6 y] := (hB13 1 rfl).2
  refine rh0 HB18 [25, 26, 27, 28, 29, 30, 31, 32, 33, 10] [.bool i, .int .u8 ((32 * fk false i false : Nat) : Int), .int .u8 ((32 * fk true i false : Nat) : Int), pq (γ1 0) 3, .func (.func 44) #[] #[], nv 6 [y], .bool u, .int .u8 ((32 * fk false false u : Nat) : Int), .int .u8 ((32 * fk true i u : Nat) : Int), .int .u8 ((32 * fk true i u : Nat) : Int)] ?_ ?_
  · refine stpm ?_
    refine stpk Tryz.call121 (fun w h => ptflag_64 i _) ?_
    refine stpx (fun _ _ => ex_bitsor rfl rfl _ (or_128 i)) ?_
    refine stpx (fun _ _ => ex_field faCv1_3 rfl) ?_
    refine stpv (fun γ w h => ex_load1 3 (s := .v (.func (.func 44) #[] #[])) (v := .func (.func 44) #[] #[]) sgT5 rfl (A14.keep h.out) rfl rfl rfl) ?_
    refine stpl 0 1 flFp A17 ?_
    refine stpk Tryz.call44 (fun w h => hH _) ?_
    refine stpk Tryz.call121 (fun w h => ptflag_32 u _) ?_
    refine stpx (fun _ _ => ex_bitsor rfl rfl _ (or_32 i u)) ?_
    exact stpa .nil
  intro w19 hb19 HB24
  have A20 := A14.keep hb19.out
  have A22 := A16.keep hb19.out
  refine rh0 HB24 [34, 35, 36, 37, 38, 39, 4, 5] [pq (γ1 0) 1, .func (.func 67) #[] #[], nv 6 [x], str X, .int .u8 ((32 * fk true i u : Nat) : Int), str ((mark (fk true i u) X)), str ((mark (fk true i u) X)), .int .i64 0] ?_ ?_
  · refine stpx (fun _ _ => ex_field faCv1_1 rfl) ?_
    refine stpv (fun γ w h => ex_load1 1 (s := .v (.func (.func 67) #[] #[])) (v := .func (.func 67) #[] #[]) sgT3 rfl (A20.keep h.out) rfl rfl rfl) ?_
    refine stpl 0 1 flFp A22 ?_
    refine stpk Tryz.call67 (fun w h => hX _) ?_
    refine stpm ?_
    refine stpc (str ((mark (fk true i u) X))) (fun γ w => ex_call (vs := [str X, .int .u8 ((32 * fk true i u : Nat) : Int)]) rfl Tryz.call122 rfl) (fun w h => ptmarked_q X hL (by omega) _ (fk_lt _ _ _) _) ?_
    refine stpa ?_
    exact stpa .nil
  intro w25 hb25 HB30
  exact wp_ret (bodyPost_ret (ret2 Tryz.results63 (res_tmp rfl) (res_tmp rfl)) rfl ⟨rfl, HB30⟩)
theorem pt1put_l (x : Nat) (y : Nat) (i : Bool) (R : List UInt8) (hM : CI 63 #[sv cvS1, sv [.n 6 x, .n 6 y, .b i]] (.tuple #[str R, .int .i64 0])) (w : World) :
    Calls Tryz.prog 25 #[sv [.n 6 x, .n 6 y, .b i]] w (Is (.tuple #[str R, .int .i64 0]) w) := by
  go_enter Tryz.func25, Tryz.ntmps25
  refine rh1 (brf w) 26 0 [.n 6 x, .n 6 y, .b i] [1, 2, 3] (fun γ => [pz (γ 0), str [], .int .i64 0]) ?_ ?_
  · refine stpb 0 (fun γ w h => ex_boxs (l := [.n 6 x, .n 6 y, .b i]) rfl) ?_
    refine stpa ?_
    exact stpa .nil
  intro γ1 w1 hb1 A2 _ HB3
  refine rh0 HB3 [4, 5, 6, 7, 8, 2, 3] [sv cvS1, sv [.n 6 x, .n 6 y, .b i], .tuple #[str R, .int .i64 0], str R, .int .i64 0, str R, .int .i64 0] ?_ ?_
  · refine stpk Tryz.call29 (fun w h => pt1first_v _) ?_
    refine stpv (fun γ w h => ex_loads 0 3 (m := [.n 6 x, .n 6 y, .b i]) flG1 rfl rfl (A2.keep h.out) rfl rfl) ?_
    refine stpk Tryz.call63 (fun w h => hM _) ?_
    refine stpx (fun _ _ => ex_extract rfl rfl) ?_
    refine stpx (fun _ _ => ex_extract rfl rfl) ?_
    refine stpa ?_
    exact stpa .nil
  intro w4 hb4 HB6
  exact wp_ret (bodyPost_ret (ret2 Tryz.results25 (res_tmp rfl) (res_tmp rfl)) rfl ⟨rfl, HB6⟩)
theorem pt1put_in (P : E1) (hT : EP.times C1 rN P = EP.zero) (w : World) : Calls Tryz.prog 25 #[sv [.n 6 (ax P.pt), .n 6 (ay P.pt), .b (ai P.pt)]] w (Is (.tuple #[str ((mark (fk true (ai P.pt) (pHigh (ay P.pt))) (be 48 (ax P.pt)))), .int .i64 0]) w) :=
  pt1put_l (ax P.pt) (ay P.pt) (ai P.pt) _ (fun w => pt1put_in_m (ax P.pt) (ay P.pt) (ai P.pt) (fun _ => pt1check_in P hT _) _ (fun _ => fpPut_l (ax P.pt) (ax_P _) _) (led_be (ax_P _)) (by simp only [length_be]; decide) _ (fun _ => fpHigh_v (ay P.pt) _ (ay_B _) (pHigh (ay P.pt)) rfl) w) w
theorem pt1wide_nom (x : Nat) (y : Nat) (i : Bool) (hx : x < fpB) (hy : y < fpB) (h0 : ¬ RawOk x y i) (w : World) :
    Calls Tryz.prog 64 #[sv cvS1, sv [.n 6 x, .n 6 y, .b i]] w (Is (.tuple #[str [], .int .i64 30]) w) := by
  go_enter Tryz.func64, Tryz.ntmps64
  refine rh2 (brf w) (63) 0 cvS1 26 1 [.n 6 x, .n 6 y, .b i] [2, 3, 4, 5] (fun γ => [pz (γ 0), pz (γ 1), str [], .int .i64 0]) ?_ ?_
  · refine stpb 0 (fun γ w h => ex_boxs (l := cvS1) rfl) ?_
    refine stpb 1 (fun γ w h => ex_boxs (l := [.n 6 x, .n 6 y, .b i]) rfl) ?_
    refine stpa ?_
    exact stpa .nil
  intro γ1 w1 hb1 A2 A3 _ _ hn1 HB4
  refine wp_seq ?_
  refine rh0 HB4 [10, 11, 12, 6] [sv cvS1, sv [.n 6 x, .n 6 y, .b i], .int .i64 30, .int .i64 30] ?_ ?_
  · refine stpv (fun γ w h => ex_loads 0 11 (m := cvS1) flCv1 rfl rfl (A2.keep h.out) rfl rfl) ?_
    refine stpv (fun γ w h => ex_loads 0 3 (m := [.n 6 x, .n 6 y, .b i]) flG1 rfl rfl (A3.keep h.out) rfl rfl) ?_
    refine stpk Tryz.call81 (fun w h => pt1check_no x y i hx hy h0 _) ?_
    exact stpa .nil
  intro w5 hb5 HB8
  refine rh0 HB8 [13, 14] [.int .i64 30, .bool true] ?_ ?_
  · refine stpm ?_
    exact stpx (fun _ _ => ex_neqi rfl rfl _ rfl) .nil
  intro w9 hb9 HB12
  refine wp_cond_true rfl ?_
  refine rh0 HB12 [15, 4, 5] [.int .i64 30, str [], .int .i64 30] ?_ ?_
  · refine stpm ?_
    refine stpa ?_
    exact stpa .nil
  intro w13 hb13 HB16
  exact wp_ret (th_ret (bodyPost_ret (ret2 Tryz.results64 (res_tmp rfl) (res_tmp rfl)) rfl ⟨rfl, HB16⟩))
theorem pt1wide_no (x : Nat) (y : Nat) (i : Bool) (hx : x < fpB) (hy : y < fpB) (h0 : ¬ RawOk x y i) (w : World) :
    Calls Tryz.prog 26 #[sv [.n 6 x, .n 6 y, .b i]] w (Is (.tuple #[str [], .int .i64 30]) w) := by
  go_enter Tryz.func26, Tryz.ntmps26
  refine rh1 (brf w) 26 0 [.n 6 x, .n 6 y, .b i] [1, 2, 3] (fun γ => [pz (γ 0), str [], .int .i64 0]) ?_ ?_
  · refine stpb 0 (fun γ w h => ex_boxs (l := [.n 6 x, .n 6 y, .b i]) rfl) ?_
    refine stpa ?_
    exact stpa .nil
  intro γ1 w1 hb1 A2 _ HB3
  refine rh0 HB3 [4, 5, 6, 7, 8, 2, 3] [sv cvS1, sv [.n 6 x, .n 6 y, .b i], .tuple #[str [], .int .i64 30], str [], .int .i64 30, str [], .int .i64 30] ?_ ?_
  · refine stpk Tryz.call29 (fun w h => pt1first_v _) ?_
    refine stpv (fun γ w h => ex_loads 0 3 (m := [.n 6 x, .n 6 y, .b i]) flG1 rfl rfl (A2.keep h.out) rfl rfl) ?_
    refine stpk Tryz.call64 (fun w h => pt1wide_nom x y i hx hy h0 _) ?_
    refine stpx (fun _ _ => ex_extract rfl rfl) ?_
    refine stpx (fun _ _ => ex_extract rfl rfl) ?_
    refine stpa ?_
    exact stpa .nil
  intro w4 hb4 HB6
  exact wp_ret (bodyPost_ret (ret2 Tryz.results26 (res_tmp rfl) (res_tmp rfl)) rfl ⟨rfl, HB6⟩)
theorem pt1wide_outm (P : E1) (hT : EP.times C1 rN P ≠ EP.zero) (w : World) :
    Calls Tryz.prog 64 #[sv cvS1, sv [.n 6 (ax P.pt), .n 6 (ay P.pt), .b (ai P.pt)]] w (Is (.tuple #[str [], .int .i64 31]) w) := by
  go_enter Tryz.func64, Tryz.ntmps64
  refine rh2 (brf w) (63) 0 cvS1 26 1 [.n 6 (ax P.pt), .n 6 (ay P.pt), .b (ai P.pt)] [2, 3, 4, 5] (fun γ => [pz (γ 0), pz (γ 1), str [], .int .i64 0]) ?_ ?_
  · refine stpb 0 (fun γ w h => ex_boxs (l := cvS1) rfl) ?_
    refine stpb 1 (fun γ w h => ex_boxs (l := [.n 6 (ax P.pt), .n 6 (ay P.pt), .b (ai P.pt)]) rfl) ?_
    refine stpa ?_
    exact stpa .nil
  intro γ1 w1 hb1 A2 A3 _ _ hn1 HB4
  refine wp_seq ?_
  refine rh0 HB4 [10, 11, 12, 6] [sv cvS1, sv [.n 6 (ax P.pt), .n 6 (ay P.pt), .b (ai P.pt)], .int .i64 31, .int .i64 31] ?_ ?_
  · refine stpv (fun γ w h => ex_loads 0 11 (m := cvS1) flCv1 rfl rfl (A2.keep h.out) rfl rfl) ?_
    refine stpv (fun γ w h => ex_loads 0 3 (m := [.n 6 (ax P.pt), .n 6 (ay P.pt), .b (ai P.pt)]) flG1 rfl rfl (A3.keep h.out) rfl rfl) ?_
    refine stpk Tryz.call81 (fun w h => pt1check_out P hT _) ?_
    exact stpa .nil
  intro w5 hb5 HB8
  refine rh0 HB8 [13, 14] [.int .i64 31, .bool true] ?_ ?_
  · refine stpm ?_
    exact stpx (fun _ _ => ex_neqi rfl rfl _ rfl) .nil
  intro w9 hb9 HB12
  refine wp_cond_true rfl ?_
  refine rh0 HB12 [15, 4, 5] [.int .i64 31, str [], .int .i64 31] ?_ ?_
  · refine stpm ?_
    refine stpa ?_
    exact stpa .nil
  intro w13 hb13 HB16
  exact wp_ret (th_ret (bodyPost_ret (ret2 Tryz.results64 (res_tmp rfl) (res_tmp rfl)) rfl ⟨rfl, HB16⟩))
theorem pt1wide_out (P : E1) (hT : EP.times C1 rN P ≠ EP.zero) (w : World) :
    Calls Tryz.prog 26 #[sv [.n 6 (ax P.pt), .n 6 (ay P.pt), .b (ai P.pt)]] w (Is (.tuple #[str [], .int .i64 31]) w) := by
  go_enter Tryz.func26, Tryz.ntmps26
  refine rh1 (brf w) 26 0 [.n 6 (ax P.pt), .n 6 (ay P.pt), .b (ai P.pt)] [1, 2, 3] (fun γ => [pz (γ 0), str [], .int .i64 0]) ?_ ?_
  · refine stpb 0 (fun γ w h => ex_boxs (l := [.n 6 (ax P.pt), .n 6 (ay P.pt), .b (ai P.pt)]) rfl) ?_
    refine stpa ?_
    exact stpa .nil
  intro γ1 w1 hb1 A2 _ HB3
  refine rh0 HB3 [4, 5, 6, 7, 8, 2, 3] [sv cvS1, sv [.n 6 (ax P.pt), .n 6 (ay P.pt), .b (ai P.pt)], .tuple #[str [], .int .i64 31], str [], .int .i64 31, str [], .int .i64 31] ?_ ?_
  · refine stpk Tryz.call29 (fun w h => pt1first_v _) ?_
    refine stpv (fun γ w h => ex_loads 0 3 (m := [.n 6 (ax P.pt), .n 6 (ay P.pt), .b (ai P.pt)]) flG1 rfl rfl (A2.keep h.out) rfl rfl) ?_
    refine stpk Tryz.call64 (fun w h => pt1wide_outm P hT _) ?_
    refine stpx (fun _ _ => ex_extract rfl rfl) ?_
    refine stpx (fun _ _ => ex_extract rfl rfl) ?_
    refine stpa ?_
    exact stpa .nil
  intro w4 hb4 HB6
  exact wp_ret (bodyPost_ret (ret2 Tryz.results26 (res_tmp rfl) (res_tmp rfl)) rfl ⟨rfl, HB6⟩)
theorem pt1wide_in_m (x : Nat) (y : Nat) (i : Bool) (hC : CI 81 #[sv cvS1, sv [.n 6 x, .n 6 y, .b i]] (.int .i64 0)) (X : List UInt8) (hX : CI 67 #[nv 6 [x]] (str X)) (hL : Led X) (hn : X.length ≤ 200) (Y : List UInt8) (hY : CI 67 #[nv 6 [y]] (str Y)) (hn' : Y.length ≤ 200) (w : World) :
    Calls Tryz.prog 64 #[sv cvS1, sv [.n 6 x, .n 6 y, .b i]] w (Is (.tuple #[str ((mark (fk false i false) (X ++ Y))), .int .i64 0]) w) := by
  go_enter Tryz.func64, Tryz.ntmps64
  refine rh2 (brf w) (63) 0 cvS1 26 1 [.n 6 x, .n 6 y, .b i] [2, 3, 4, 5] (fun γ => [pz (γ 0), pz (γ 1), str [], .int .i64 0]) ?_ ?_
  · refine stpb 0 (fun γ w h => ex_boxs (l := cvS1) rfl) ?_
    refine stpb 1 (fun γ w h => ex_boxs (l := [.n 6 x, .n 6 y, .b i]) rfl) ?_
    refine stpa ?_
    exact stpa .nil
  intro γ1 w1 hb1 A2 A3 _ _ hn1 HB4
  refine wp_seq ?_
  refine rh0 HB4 [10, 11, 12, 6] [sv cvS1, sv [.n 6 x, .n 6 y, .b i], .int .i64 0, .int .i64 0] ?_ ?_
  · refine stpv (fun γ w h => ex_loads 0 11 (m := cvS1) flCv1 rfl rfl (A2.keep h.out) rfl rfl) ?_
    refine stpv (fun γ w h => ex_loads 0 3 (m := [.n 6 x, .n 6 y, .b i]) flG1 rfl rfl (A3.keep h.out) rfl rfl) ?_
    refine stpk Tryz.call81 (fun w h => hC _) ?_
    exact stpa .nil
  intro w5 hb5 HB8
  have A6 := A2.keep hb5.out
  have A7 := A3.keep hb5.out
  refine rh0 HB8 [13, 14] [.int .i64 0, .bool false] ?_ ?_
  · refine stpm ?_
    exact stpx (fun _ _ => ex_neqi rfl rfl _ rfl) .nil
  intro w9 hb9 HB12
  have A10 := A6.keep hb9.out
  have A11 := A7.keep hb9.out
  refine wp_cond_false rfl ?_
  refine wp_skip ?_
  refine th_r ?_
  refine rhc HB12 [(24, 8, 10, [.n 6 0], [.n 6 x]), (24, 9, 11, [.n 6 0], [.n 6 y])] [17, 18, 19, 20, 16, 21, 22, 23, 7, 8, 9] (fun γ => [pq (γ1 0) 8, .func (.func 71) #[] #[], sv [.n 6 x, .n 6 y, .b i], .tuple #[nv 6 [x], nv 6 [y], .bool i], .tuple #[nv 6 [x], nv 6 [y], .bool i], nv 6 [x], nv 6 [y], .bool i, pz (γ 0), pz (γ 1), .bool i]) ?_ ?_
  · refine stpx (fun _ _ => ex_field faCv1_8 rfl) ?_
    refine stpv (fun γ w h => ex_load1 8 (s := .v (.func (.func 71) #[] #[])) (v := .func (.func 71) #[] #[]) sgT10 rfl (A10.keep h.out) rfl rfl rfl) ?_
    refine stpv (fun γ w h => ex_loads 0 3 (m := [.n 6 x, .n 6 y, .b i]) flG1 rfl rfl (A11.keep h.out) rfl rfl) ?_
    refine stpk Tryz.call71 (fun w h => pt1parts_v x y i _) ?_
    refine stpm ?_
    refine stpx (fun _ _ => ex_extract rfl rfl) ?_
    refine stpx (fun _ _ => ex_extract rfl rfl) ?_
    refine stpx (fun _ _ => ex_extract rfl rfl) ?_
    refine stpn 0 (fun γ w => ex_allocsn (K := 6) (l := [0]) zFp) ?_
    refine stpn 1 (fun γ w => ex_allocsn (K := 6) (l := [0]) zFp) ?_
    refine stpo 0 0 1 flFp.2 (nv_cells 6 [x]) ?_
    refine stpo 1 0 1 flFp.2 (nv_cells 6 [y]) ?_
    exact stpa .nil
  intro γ13 w13 hb13 hB13 hn13 HB18
  have A14 := A10.keep hb13.out
  have A16 : SB 24 w13 (γ13 0) [.n 6 x] := (hB13 0 rfl).2
  have A17 : SB 24 w13 (γ13 1) [.n 6 y] := (hB13 1 rfl).2
  refine rh0 HB18 [24, 25, 26, 27, 28, 29, 30, 31, 32, 33, 34, 35, 4, 5] [pq (γ1 0) 1, .func (.func 67) #[] #[], nv 6 [x], str X, pq (γ1 0) 1, .func (.func 67) #[] #[], nv 6 [y], str Y, str ((X ++ Y)), .bool i, .int .u8 ((32 * fk false i false : Nat) : Int), str ((mark (fk false i false) (X ++ Y))), str ((mark (fk false i false) (X ++ Y))), .int .i64 0] ?_ ?_
  · refine stpx (fun _ _ => ex_field faCv1_1 rfl) ?_
    refine stpv (fun γ w h => ex_load1 1 (s := .v (.func (.func 67) #[] #[])) (v := .func (.func 67) #[] #[]) sgT3 rfl (A14.keep h.out) rfl rfl rfl) ?_
    refine stpl 0 1 flFp A16 ?_
    refine stpk Tryz.call67 (fun w h => hX _) ?_
    refine stpx (fun _ _ => ex_field faCv1_1 rfl) ?_
    refine stpv (fun γ w h => ex_load1 1 (s := .v (.func (.func 67) #[] #[])) (v := .func (.func 67) #[] #[]) sgT3 rfl (A14.keep h.out) rfl rfl rfl) ?_
    refine stpl 0 1 flFp A17 ?_
    refine stpk Tryz.call67 (fun w h => hY _) ?_
    refine stpx (fun _ _ => ex_catL (a := X) (b := Y) rfl rfl (by omega)) ?_
    refine stpm ?_
    refine stpk Tryz.call121 (fun w h => ptflag_64 i _) ?_
    refine stpc (str ((mark (fk false i false) (X ++ Y)))) (fun γ w => ex_call (vs := [str ((X ++ Y)), .int .u8 ((32 * fk false i false : Nat) : Int)]) rfl Tryz.call122 rfl) (fun w h => ptmarked_q _ (led_app hL) (by simp only [List.length_append]; omega) _ (fk_lt _ _ _) _) ?_
    refine stpa ?_
    exact stpa .nil
  intro w19 hb19 HB24
  exact wp_ret (bodyPost_ret (ret2 Tryz.results64 (res_tmp rfl) (res_tmp rfl)) rfl ⟨rfl, HB24⟩)
theorem pt1wide_l (x : Nat) (y : Nat) (i : Bool) (R : List UInt8) (hM : CI 64 #[sv cvS1, sv [.n 6 x, .n 6 y, .b i]] (.tuple #[str R, .int .i64 0])) (w : World) :
    Calls Tryz.prog 26 #[sv [.n 6 x, .n 6 y, .b i]] w (Is (.tuple #[str R, .int .i64 0]) w) := by
  go_enter Tryz.func26, Tryz.ntmps26
  refine rh1 (brf w) 26 0 [.n 6 x, .n 6 y, .b i] [1, 2, 3] (fun γ => [pz (γ 0), str [], .int .i64 0]) ?_ ?_
  · refine stpb 0 (fun γ w h => ex_boxs (l := [.n 6 x, .n 6 y, .b i]) rfl) ?_
    refine stpa ?_
    exact stpa .nil
  intro γ1 w1 hb1 A2 _ HB3
  refine rh0 HB3 [4, 5, 6, 7, 8, 2, 3] [sv cvS1, sv [.n 6 x, .n 6 y, .b i], .tuple #[str R, .int .i64 0], str R, .int .i64 0, str R, .int .i64 0] ?_ ?_
  · refine stpk Tryz.call29 (fun w h => pt1first_v _) ?_
    refine stpv (fun γ w h => ex_loads 0 3 (m := [.n 6 x, .n 6 y, .b i]) flG1 rfl rfl (A2.keep h.out) rfl rfl) ?_
    refine stpk Tryz.call64 (fun w h => hM _) ?_
    refine stpx (fun _ _ => ex_extract rfl rfl) ?_
    refine stpx (fun _ _ => ex_extract rfl rfl) ?_
    refine stpa ?_
    exact stpa .nil
  intro w4 hb4 HB6
  exact wp_ret (bodyPost_ret (ret2 Tryz.results26 (res_tmp rfl) (res_tmp rfl)) rfl ⟨rfl, HB6⟩)
theorem pt1wide_in (P : E1) (hT : EP.times C1 rN P = EP.zero) (w : World) : Calls Tryz.prog 26 #[sv [.n 6 (ax P.pt), .n 6 (ay P.pt), .b (ai P.pt)]] w (Is (.tuple #[str ((mark (fk false (ai P.pt) false) ((be 48 (ax P.pt)) ++ (be 48 (ay P.pt))))), .int .i64 0]) w) :=
  pt1wide_l (ax P.pt) (ay P.pt) (ai P.pt) _ (fun w => pt1wide_in_m (ax P.pt) (ay P.pt) (ai P.pt) (fun _ => pt1check_in P hT _) _ (fun _ => fpPut_l (ax P.pt) (ax_P _) _) (led_be (ax_P _)) (by simp only [length_be]; decide) _ (fun _ => fpPut_l (ay P.pt) (ay_P _) _) (by simp only [length_be]; decide) w) w
end
end
end Go.Proofs.YtplbcdafelejbaaGreatDoor

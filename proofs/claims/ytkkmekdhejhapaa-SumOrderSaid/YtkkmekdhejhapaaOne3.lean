/- What is proved here: how often a point is taken; what is of the group; the reference's sum (chirographref08). -/
import Derived.Test.YtkkmekdhejhapaaComp
import Derived.Test.YtkkmekdhejhapaaOne1
namespace Go.Proofs.Ytkkmekdhejhapaa
open Go.RowKit Cv
set_option maxRecDepth 20000
set_option maxHeartbeats 4000000
theorem ex_indexFr {ρ : Operand → Value} {d : Option Tmp} {ty0 : TypeId} {pos : String} {after : Array Edge} {guard : Option (Nat × Bool)} {w : World} {x ix : Operand} {g : Nat} (i : Nat) (hx : ρ x = (pz g)) (hi : ρ ix = .int .i64 (i : Int)) (hlt : i < 4) :
    (execOp ρ ⟨d, .indexAddr 38 x ix, ty0, pos, after, guard⟩).run Try.prog w = .ok (.value (pq g i)) w := by
  have e := ex_index (d := d) (ty0 := ty0) (pos := pos) (after := after) (guard := guard) (w := w) i arFr hx hi hlt
  rw [Nat.mul_one, Nat.zero_add] at e
  exact e
theorem onelength_3 (k : Nat)  (h3 : lb k 3 ≠ 0) : CI 41 #[nv 4 [k]] (.int .i64 ((192 + nbits (lb k 3) : Nat) : Int)) := fun w => by
  go_enter Try.func41, Try.ntmps41
  refine rh1 (brf w) 38 0 [.n 4 k] [1, 2] (fun γ => [pz (γ 0), .int .i64 0]) ?_ ?_
  · refine stpb 0 (fun γ w h => ex_boxsn (K := 4) (l := [k]) rfl) ?_
    exact stpa .nil
  intro γ1 w1 hb1 A2 _ HB3
  refine wp_seq ?_
  refine rh0 HB3 [3] [.int .i64 3] ?_ ?_
  · exact stpa .nil
  intro w4 hb4 HB6
  have A5 := A2.keep hb4.out
  refine wp_block ?_
  refine wp_loop_rounds 6 ?_
  rw [rounds_succ]
  refine wp_seq ?_
  refine rh0 HB6 [4, 5] [.int .i64 3, .bool true] ?_ ?_
  · refine stpm ?_
    exact stpx (fun _ _ => ex_igeq rfl rfl true rfl) .nil
  intro w7 hb7 HB9
  have A8 := A5.keep hb7.out
  refine wp_cond_true rfl ?_
  refine wp_skip ?_
  refine th_r ?_
  refine wp_seq ?_
  refine wp_block ?_
  refine rh0 HB9 [8, 9, 10, 11] [.int .i64 3, pq (γ1 0) 3, .int .u64 ((lb k 3 : Nat) : Int), .bool true] ?_ ?_
  · refine stpm ?_
    refine stpx (fun _ _ => ex_indexFr 3 rfl rfl (by decide)) ?_
    refine stpv (fun γ w h => ex_loadlimb (v := k) (o := 3) (K := 4) (A8.keep h.out) (by decide) rfl sgU64) ?_
    exact stpx (fun _ _ => ex_neqi rfl rfl true (by simp [h3])) .nil
  intro w10 hb10 HB12
  have A11 := A8.keep hb10.out
  refine wp_cond_true rfl ?_
  refine rh0 HB12 [12, 13, 14, 15, 16, 17, 18, 2] [.int .i64 3, .int .i64 192, .int .i64 3, pq (γ1 0) 3, .int .u64 ((lb k 3 : Nat) : Int), .int .i64 ((nbits (lb k 3) : Nat) : Int), .int .i64 ((192 + nbits (lb k 3) : Nat) : Int), .int .i64 ((192 + nbits (lb k 3) : Nat) : Int)] ?_ ?_
  · refine stpm ?_
    refine stpx (fun _ _ => ex_imul rfl rfl 192 rfl) ?_
    refine stpm ?_
    refine stpx (fun _ _ => ex_indexFr 3 rfl rfl (by decide)) ?_
    refine stpv (fun γ w h => ex_loadlimb (v := k) (o := 3) (K := 4) (A11.keep h.out) (by decide) rfl sgU64) ?_
    refine stpk Try.call69 (fun w h => len64_is _ _ (lb_lt k 3)) ?_
    refine stpx (fun _ _ => ex_iadd rfl rfl ((192 + nbits (lb k 3) : Nat) : Int) (by have := lb_nbits k 3; rw [wrapI64 (by omega) (by omega)]; omega)) ?_
    exact stpa .nil
  intro w13 hb13 HB15
  exact wp_ret (bk_r (th_ret (th_ret (bk_r (th_ret (bodyPost_ret (ret1 Try.results41 (res_tmp rfl)) rfl ⟨rfl, HB15⟩))))))
theorem onelength_2 (k : Nat) (h3 : lb k 3 = 0) (h2 : lb k 2 ≠ 0) : CI 41 #[nv 4 [k]] (.int .i64 ((128 + nbits (lb k 2) : Nat) : Int)) := fun w => by
  go_enter Try.func41, Try.ntmps41
  refine rh1 (brf w) 38 0 [.n 4 k] [1, 2] (fun γ => [pz (γ 0), .int .i64 0]) ?_ ?_
  · refine stpb 0 (fun γ w h => ex_boxsn (K := 4) (l := [k]) rfl) ?_
    exact stpa .nil
  intro γ1 w1 hb1 A2 _ HB3
  refine wp_seq ?_
  refine rh0 HB3 [3] [.int .i64 3] ?_ ?_
  · exact stpa .nil
  intro w4 hb4 HB6
  have A5 := A2.keep hb4.out
  refine wp_block ?_
  refine wp_loop_rounds 6 ?_
  rw [rounds_succ]
  refine wp_seq ?_
  refine rh0 HB6 [4, 5] [.int .i64 3, .bool true] ?_ ?_
  · refine stpm ?_
    exact stpx (fun _ _ => ex_igeq rfl rfl true rfl) .nil
  intro w7 hb7 HB9
  have A8 := A5.keep hb7.out
  refine wp_cond_true rfl ?_
  refine wp_skip ?_
  refine th_r ?_
  refine wp_seq ?_
  refine wp_block ?_
  refine rh0 HB9 [8, 9, 10, 11] [.int .i64 3, pq (γ1 0) 3, .int .u64 ((lb k 3 : Nat) : Int), .bool false] ?_ ?_
  · refine stpm ?_
    refine stpx (fun _ _ => ex_indexFr 3 rfl rfl (by decide)) ?_
    refine stpv (fun γ w h => ex_loadlimb (v := k) (o := 3) (K := 4) (A8.keep h.out) (by decide) rfl sgU64) ?_
    exact stpx (fun _ _ => ex_neqi rfl rfl false (by simp [h3])) .nil
  intro w10 hb10 HB12
  have A11 := A8.keep hb10.out
  refine wp_cond_false rfl ?_
  refine wp_skip ?_
  refine bk_n ?_
  refine th_r ?_
  refine wp_region_lit ?_
  refine svm (.int .i64 3) ?_
  refine sv1 (.int .i64 2) (ex_isub rfl rfl 2 rfl) ?_
  refine sva (.int .i64 2) ?_
  refine wpList_nil ?_
  refine th_r ?_
  rw [rounds_succ]
  refine wp_seq ?_
  refine rh0 HB12 [4, 5] [.int .i64 2, .bool true] ?_ ?_
  · refine stpm ?_
    exact stpx (fun _ _ => ex_igeq rfl rfl true rfl) .nil
  intro w13 hb13 HB15
  have A14 := A11.keep hb13.out
  refine wp_cond_true rfl ?_
  refine wp_skip ?_
  refine th_r ?_
  refine wp_seq ?_
  refine wp_block ?_
  refine rh0 HB15 [8, 9, 10, 11] [.int .i64 2, pq (γ1 0) 2, .int .u64 ((lb k 2 : Nat) : Int), .bool true] ?_ ?_
  · refine stpm ?_
    refine stpx (fun _ _ => ex_indexFr 2 rfl rfl (by decide)) ?_
    refine stpv (fun γ w h => ex_loadlimb (v := k) (o := 2) (K := 4) (A14.keep h.out) (by decide) rfl sgU64) ?_
    exact stpx (fun _ _ => ex_neqi rfl rfl true (by simp [h2])) .nil
  intro w16 hb16 HB18
  have A17 := A14.keep hb16.out
  refine wp_cond_true rfl ?_
  refine rh0 HB18 [12, 13, 14, 15, 16, 17, 18, 2] [.int .i64 2, .int .i64 128, .int .i64 2, pq (γ1 0) 2, .int .u64 ((lb k 2 : Nat) : Int), .int .i64 ((nbits (lb k 2) : Nat) : Int), .int .i64 ((128 + nbits (lb k 2) : Nat) : Int), .int .i64 ((128 + nbits (lb k 2) : Nat) : Int)] ?_ ?_
  · refine stpm ?_
    refine stpx (fun _ _ => ex_imul rfl rfl 128 rfl) ?_
    refine stpm ?_
    refine stpx (fun _ _ => ex_indexFr 2 rfl rfl (by decide)) ?_
    refine stpv (fun γ w h => ex_loadlimb (v := k) (o := 2) (K := 4) (A17.keep h.out) (by decide) rfl sgU64) ?_
    refine stpk Try.call69 (fun w h => len64_is _ _ (lb_lt k 2)) ?_
    refine stpx (fun _ _ => ex_iadd rfl rfl ((128 + nbits (lb k 2) : Nat) : Int) (by have := lb_nbits k 2; rw [wrapI64 (by omega) (by omega)]; omega)) ?_
    exact stpa .nil
  intro w19 hb19 HB21
  exact wp_ret (bk_r (th_ret (th_ret (bk_r (th_ret (bodyPost_ret (ret1 Try.results41 (res_tmp rfl)) rfl ⟨rfl, HB21⟩))))))
theorem onelength_1 (k : Nat) (h3 : lb k 3 = 0) (h2 : lb k 2 = 0) (h1 : lb k 1 ≠ 0) : CI 41 #[nv 4 [k]] (.int .i64 ((64 + nbits (lb k 1) : Nat) : Int)) := fun w => by
  go_enter Try.func41, Try.ntmps41
  refine rh1 (brf w) 38 0 [.n 4 k] [1, 2] (fun γ => [pz (γ 0), .int .i64 0]) ?_ ?_
  · refine stpb 0 (fun γ w h => ex_boxsn (K := 4) (l := [k]) rfl) ?_
    exact stpa .nil
  intro γ1 w1 hb1 A2 _ HB3
  refine wp_seq ?_
  refine rh0 HB3 [3] [.int .i64 3] ?_ ?_
  · exact stpa .nil
  intro w4 hb4 HB6
  have A5 := A2.keep hb4.out
  refine wp_block ?_
  refine wp_loop_rounds 6 ?_
  rw [rounds_succ]
  refine wp_seq ?_
  refine rh0 HB6 [4, 5] [.int .i64 3, .bool true] ?_ ?_
  · refine stpm ?_
    exact stpx (fun _ _ => ex_igeq rfl rfl true rfl) .nil
  intro w7 hb7 HB9
  have A8 := A5.keep hb7.out
  refine wp_cond_true rfl ?_
  refine wp_skip ?_
  refine th_r ?_
  refine wp_seq ?_
  refine wp_block ?_
  refine rh0 HB9 [8, 9, 10, 11] [.int .i64 3, pq (γ1 0) 3, .int .u64 ((lb k 3 : Nat) : Int), .bool false] ?_ ?_
  · refine stpm ?_
    refine stpx (fun _ _ => ex_indexFr 3 rfl rfl (by decide)) ?_
    refine stpv (fun γ w h => ex_loadlimb (v := k) (o := 3) (K := 4) (A8.keep h.out) (by decide) rfl sgU64) ?_
    exact stpx (fun _ _ => ex_neqi rfl rfl false (by simp [h3])) .nil
  intro w10 hb10 HB12
  have A11 := A8.keep hb10.out
  refine wp_cond_false rfl ?_
  refine wp_skip ?_
  refine bk_n ?_
  refine th_r ?_
  refine wp_region_lit ?_
  refine svm (.int .i64 3) ?_
  refine sv1 (.int .i64 2) (ex_isub rfl rfl 2 rfl) ?_
  refine sva (.int .i64 2) ?_
  refine wpList_nil ?_
  refine th_r ?_
  rw [rounds_succ]
  refine wp_seq ?_
  refine rh0 HB12 [4, 5] [.int .i64 2, .bool true] ?_ ?_
  · refine stpm ?_
    exact stpx (fun _ _ => ex_igeq rfl rfl true rfl) .nil
  intro w13 hb13 HB15
  have A14 := A11.keep hb13.out
  refine wp_cond_true rfl ?_
  refine wp_skip ?_
  refine th_r ?_
  refine wp_seq ?_
  refine wp_block ?_
  refine rh0 HB15 [8, 9, 10, 11] [.int .i64 2, pq (γ1 0) 2, .int .u64 ((lb k 2 : Nat) : Int), .bool false] ?_ ?_
  · refine stpm ?_
    refine stpx (fun _ _ => ex_indexFr 2 rfl rfl (by decide)) ?_
    refine stpv (fun γ w h => ex_loadlimb (v := k) (o := 2) (K := 4) (A14.keep h.out) (by decide) rfl sgU64) ?_
    exact stpx (fun _ _ => ex_neqi rfl rfl false (by simp [h2])) .nil
  intro w16 hb16 HB18
  have A17 := A14.keep hb16.out
  refine wp_cond_false rfl ?_
  refine wp_skip ?_
  refine bk_n ?_
  refine th_r ?_
  refine wp_region_lit ?_
  refine svm (.int .i64 2) ?_
  refine sv1 (.int .i64 1) (ex_isub rfl rfl 1 rfl) ?_
  refine sva (.int .i64 1) ?_
  refine wpList_nil ?_
  refine th_r ?_
  rw [rounds_succ]
  refine wp_seq ?_
  refine rh0 HB18 [4, 5] [.int .i64 1, .bool true] ?_ ?_
  · refine stpm ?_
    exact stpx (fun _ _ => ex_igeq rfl rfl true rfl) .nil
  intro w19 hb19 HB21
  have A20 := A17.keep hb19.out
  refine wp_cond_true rfl ?_
  refine wp_skip ?_
  refine th_r ?_
  refine wp_seq ?_
  refine wp_block ?_
  refine rh0 HB21 [8, 9, 10, 11] [.int .i64 1, pq (γ1 0) 1, .int .u64 ((lb k 1 : Nat) : Int), .bool true] ?_ ?_
  · refine stpm ?_
    refine stpx (fun _ _ => ex_indexFr 1 rfl rfl (by decide)) ?_
    refine stpv (fun γ w h => ex_loadlimb (v := k) (o := 1) (K := 4) (A20.keep h.out) (by decide) rfl sgU64) ?_
    exact stpx (fun _ _ => ex_neqi rfl rfl true (by simp [h1])) .nil
  intro w22 hb22 HB24
  have A23 := A20.keep hb22.out
  refine wp_cond_true rfl ?_
  refine rh0 HB24 [12, 13, 14, 15, 16, 17, 18, 2] [.int .i64 1, .int .i64 64, .int .i64 1, pq (γ1 0) 1, .int .u64 ((lb k 1 : Nat) : Int), .int .i64 ((nbits (lb k 1) : Nat) : Int), .int .i64 ((64 + nbits (lb k 1) : Nat) : Int), .int .i64 ((64 + nbits (lb k 1) : Nat) : Int)] ?_ ?_
  · refine stpm ?_
    refine stpx (fun _ _ => ex_imul rfl rfl 64 rfl) ?_
    refine stpm ?_
    refine stpx (fun _ _ => ex_indexFr 1 rfl rfl (by decide)) ?_
    refine stpv (fun γ w h => ex_loadlimb (v := k) (o := 1) (K := 4) (A23.keep h.out) (by decide) rfl sgU64) ?_
    refine stpk Try.call69 (fun w h => len64_is _ _ (lb_lt k 1)) ?_
    refine stpx (fun _ _ => ex_iadd rfl rfl ((64 + nbits (lb k 1) : Nat) : Int) (by have := lb_nbits k 1; rw [wrapI64 (by omega) (by omega)]; omega)) ?_
    exact stpa .nil
  intro w25 hb25 HB27
  exact wp_ret (bk_r (th_ret (th_ret (bk_r (th_ret (bodyPost_ret (ret1 Try.results41 (res_tmp rfl)) rfl ⟨rfl, HB27⟩))))))
theorem onelength_0 (k : Nat) (h3 : lb k 3 = 0) (h2 : lb k 2 = 0) (h1 : lb k 1 = 0) (h0 : lb k 0 ≠ 0) : CI 41 #[nv 4 [k]] (.int .i64 ((0 + nbits (lb k 0) : Nat) : Int)) := fun w => by
  go_enter Try.func41, Try.ntmps41
  refine rh1 (brf w) 38 0 [.n 4 k] [1, 2] (fun γ => [pz (γ 0), .int .i64 0]) ?_ ?_
  · refine stpb 0 (fun γ w h => ex_boxsn (K := 4) (l := [k]) rfl) ?_
    exact stpa .nil
  intro γ1 w1 hb1 A2 _ HB3
  refine wp_seq ?_
  refine rh0 HB3 [3] [.int .i64 3] ?_ ?_
  · exact stpa .nil
  intro w4 hb4 HB6
  have A5 := A2.keep hb4.out
  refine wp_block ?_
  refine wp_loop_rounds 6 ?_
  rw [rounds_succ]
  refine wp_seq ?_
  refine rh0 HB6 [4, 5] [.int .i64 3, .bool true] ?_ ?_
  · refine stpm ?_
    exact stpx (fun _ _ => ex_igeq rfl rfl true rfl) .nil
  intro w7 hb7 HB9
  have A8 := A5.keep hb7.out
  refine wp_cond_true rfl ?_
  refine wp_skip ?_
  refine th_r ?_
  refine wp_seq ?_
  refine wp_block ?_
  refine rh0 HB9 [8, 9, 10, 11] [.int .i64 3, pq (γ1 0) 3, .int .u64 ((lb k 3 : Nat) : Int), .bool false] ?_ ?_
  · refine stpm ?_
    refine stpx (fun _ _ => ex_indexFr 3 rfl rfl (by decide)) ?_
    refine stpv (fun γ w h => ex_loadlimb (v := k) (o := 3) (K := 4) (A8.keep h.out) (by decide) rfl sgU64) ?_
    exact stpx (fun _ _ => ex_neqi rfl rfl false (by simp [h3])) .nil
  intro w10 hb10 HB12
  have A11 := A8.keep hb10.out
  refine wp_cond_false rfl ?_
  refine wp_skip ?_
  refine bk_n ?_
  refine th_r ?_
  refine wp_region_lit ?_
  refine svm (.int .i64 3) ?_
  refine sv1 (.int .i64 2) (ex_isub rfl rfl 2 rfl) ?_
  refine sva (.int .i64 2) ?_
  refine wpList_nil ?_
  refine th_r ?_
  rw [rounds_succ]
  refine wp_seq ?_
  refine rh0 HB12 [4, 5] [.int .i64 2, .bool true] ?_ ?_
  · refine stpm ?_
    exact stpx (fun _ _ => ex_igeq rfl rfl true rfl) .nil
  intro w13 hb13 HB15
  have A14 := A11.keep hb13.out
  refine wp_cond_true rfl ?_
  refine wp_skip ?_
  refine th_r ?_
  refine wp_seq ?_
  refine wp_block ?_
  refine rh0 HB15 [8, 9, 10, 11] [.int .i64 2, pq (γ1 0) 2, .int .u64 ((lb k 2 : Nat) : Int), .bool false] ?_ ?_
  · refine stpm ?_
    refine stpx (fun _ _ => ex_indexFr 2 rfl rfl (by decide)) ?_
    refine stpv (fun γ w h => ex_loadlimb (v := k) (o := 2) (K := 4) (A14.keep h.out) (by decide) rfl sgU64) ?_
    exact stpx (fun _ _ => ex_neqi rfl rfl false (by simp [h2])) .nil
  intro w16 hb16 HB18
  have A17 := A14.keep hb16.out
  refine wp_cond_false rfl ?_
  refine wp_skip ?_
  refine bk_n ?_
  refine th_r ?_
  refine wp_region_lit ?_
  refine svm (.int .i64 2) ?_
  refine sv1 (.int .i64 1) (ex_isub rfl rfl 1 rfl) ?_
  refine sva (.int .i64 1) ?_
  refine wpList_nil ?_
  refine th_r ?_
  rw [rounds_succ]
  refine wp_seq ?_
  refine rh0 HB18 [4, 5] [.int .i64 1, .bool true] ?_ ?_
  · refine stpm ?_
    exact stpx (fun _ _ => ex_igeq rfl rfl true rfl) .nil
  intro w19 hb19 HB21
  have A20 := A17.keep hb19.out
  refine wp_cond_true rfl ?_
  refine wp_skip ?_
  refine th_r ?_
  refine wp_seq ?_
  refine wp_block ?_
  refine rh0 HB21 [8, 9, 10, 11] [.int .i64 1, pq (γ1 0) 1, .int .u64 ((lb k 1 : Nat) : Int), .bool false] ?_ ?_
  · refine stpm ?_
    refine stpx (fun _ _ => ex_indexFr 1 rfl rfl (by decide)) ?_
    refine stpv (fun γ w h => ex_loadlimb (v := k) (o := 1) (K := 4) (A20.keep h.out) (by decide) rfl sgU64) ?_
    exact stpx (fun _ _ => ex_neqi rfl rfl false (by simp [h1])) .nil
  intro w22 hb22 HB24
  have A23 := A20.keep hb22.out
  refine wp_cond_false rfl ?_
  refine wp_skip ?_
  refine bk_n ?_
  refine th_r ?_
  refine wp_region_lit ?_
  refine svm (.int .i64 1) ?_
  refine sv1 (.int .i64 0) (ex_isub rfl rfl 0 rfl) ?_
  refine sva (.int .i64 0) ?_
  refine wpList_nil ?_
  refine th_r ?_
  rw [rounds_succ]
  refine wp_seq ?_
  refine rh0 HB24 [4, 5] [.int .i64 0, .bool true] ?_ ?_
  · refine stpm ?_
    exact stpx (fun _ _ => ex_igeq rfl rfl true rfl) .nil
  intro w25 hb25 HB27
  have A26 := A23.keep hb25.out
  refine wp_cond_true rfl ?_
  refine wp_skip ?_
  refine th_r ?_
  refine wp_seq ?_
  refine wp_block ?_
  refine rh0 HB27 [8, 9, 10, 11] [.int .i64 0, pz (γ1 0), .int .u64 ((lb k 0 : Nat) : Int), .bool true] ?_ ?_
  · refine stpm ?_
    refine stpx (fun _ _ => ex_indexFr 0 rfl rfl (by decide)) ?_
    refine stpv (fun γ w h => ex_loadlimb (v := k) (o := 0) (K := 4) (A26.keep h.out) (by decide) rfl sgU64) ?_
    exact stpx (fun _ _ => ex_neqi rfl rfl true (by simp [h0])) .nil
  intro w28 hb28 HB30
  have A29 := A26.keep hb28.out
  refine wp_cond_true rfl ?_
  refine rh0 HB30 [12, 13, 14, 15, 16, 17, 18, 2] [.int .i64 0, .int .i64 0, .int .i64 0, pz (γ1 0), .int .u64 ((lb k 0 : Nat) : Int), .int .i64 ((nbits (lb k 0) : Nat) : Int), .int .i64 ((0 + nbits (lb k 0) : Nat) : Int), .int .i64 ((0 + nbits (lb k 0) : Nat) : Int)] ?_ ?_
  · refine stpm ?_
    refine stpx (fun _ _ => ex_imul rfl rfl 0 rfl) ?_
    refine stpm ?_
    refine stpx (fun _ _ => ex_indexFr 0 rfl rfl (by decide)) ?_
    refine stpv (fun γ w h => ex_loadlimb (v := k) (o := 0) (K := 4) (A29.keep h.out) (by decide) rfl sgU64) ?_
    refine stpk Try.call69 (fun w h => len64_is _ _ (lb_lt k 0)) ?_
    refine stpx (fun _ _ => ex_iadd rfl rfl ((0 + nbits (lb k 0) : Nat) : Int) (by have := lb_nbits k 0; rw [wrapI64 (by omega) (by omega)]; omega)) ?_
    exact stpa .nil
  intro w31 hb31 HB33
  exact wp_ret (bk_r (th_ret (th_ret (bk_r (th_ret (bodyPost_ret (ret1 Try.results41 (res_tmp rfl)) rfl ⟨rfl, HB33⟩))))))
theorem onelength_no (k : Nat) (h3 : lb k 3 = 0) (h2 : lb k 2 = 0) (h1 : lb k 1 = 0) (h0 : lb k 0 = 0) : CI 41 #[nv 4 [k]] (.int .i64 0) := fun w => by
  go_enter Try.func41, Try.ntmps41
  refine rh1 (brf w) 38 0 [.n 4 k] [1, 2] (fun γ => [pz (γ 0), .int .i64 0]) ?_ ?_
  · refine stpb 0 (fun γ w h => ex_boxsn (K := 4) (l := [k]) rfl) ?_
    exact stpa .nil
  intro γ1 w1 hb1 A2 _ HB3
  refine wp_seq ?_
  refine rh0 HB3 [3] [.int .i64 3] ?_ ?_
  · exact stpa .nil
  intro w4 hb4 HB6
  have A5 := A2.keep hb4.out
  refine wp_block ?_
  refine wp_loop_rounds 6 ?_
  rw [rounds_succ]
  refine wp_seq ?_
  refine rh0 HB6 [4, 5] [.int .i64 3, .bool true] ?_ ?_
  · refine stpm ?_
    exact stpx (fun _ _ => ex_igeq rfl rfl true rfl) .nil
  intro w7 hb7 HB9
  have A8 := A5.keep hb7.out
  refine wp_cond_true rfl ?_
  refine wp_skip ?_
  refine th_r ?_
  refine wp_seq ?_
  refine wp_block ?_
  refine rh0 HB9 [8, 9, 10, 11] [.int .i64 3, pq (γ1 0) 3, .int .u64 ((lb k 3 : Nat) : Int), .bool false] ?_ ?_
  · refine stpm ?_
    refine stpx (fun _ _ => ex_indexFr 3 rfl rfl (by decide)) ?_
    refine stpv (fun γ w h => ex_loadlimb (v := k) (o := 3) (K := 4) (A8.keep h.out) (by decide) rfl sgU64) ?_
    exact stpx (fun _ _ => ex_neqi rfl rfl false (by simp [h3])) .nil
  intro w10 hb10 HB12
  have A11 := A8.keep hb10.out
  refine wp_cond_false rfl ?_
  refine wp_skip ?_
  refine bk_n ?_
  refine th_r ?_
  refine wp_region_lit ?_
  refine svm (.int .i64 3) ?_
  refine sv1 (.int .i64 2) (ex_isub rfl rfl 2 rfl) ?_
  refine sva (.int .i64 2) ?_
  refine wpList_nil ?_
  refine th_r ?_
  rw [rounds_succ]
  refine wp_seq ?_
  refine rh0 HB12 [4, 5] [.int .i64 2, .bool true] ?_ ?_
  · refine stpm ?_
    exact stpx (fun _ _ => ex_igeq rfl rfl true rfl) .nil
  intro w13 hb13 HB15
  have A14 := A11.keep hb13.out
  refine wp_cond_true rfl ?_
  refine wp_skip ?_
  refine th_r ?_
  refine wp_seq ?_
  refine wp_block ?_
  refine rh0 HB15 [8, 9, 10, 11] [.int .i64 2, pq (γ1 0) 2, .int .u64 ((lb k 2 : Nat) : Int), .bool false] ?_ ?_
  · refine stpm ?_
    refine stpx (fun _ _ => ex_indexFr 2 rfl rfl (by decide)) ?_
    refine stpv (fun γ w h => ex_loadlimb (v := k) (o := 2) (K := 4) (A14.keep h.out) (by decide) rfl sgU64) ?_
    exact stpx (fun _ _ => ex_neqi rfl rfl false (by simp [h2])) .nil
  intro w16 hb16 HB18
  have A17 := A14.keep hb16.out
  refine wp_cond_false rfl ?_
  refine wp_skip ?_
  refine bk_n ?_
  refine th_r ?_
  refine wp_region_lit ?_
  refine svm (.int .i64 2) ?_
  refine sv1 (.int .i64 1) (ex_isub rfl rfl 1 rfl) ?_
  refine sva (.int .i64 1) ?_
  refine wpList_nil ?_
  refine th_r ?_
  rw [rounds_succ]
  refine wp_seq ?_
  refine rh0 HB18 [4, 5] [.int .i64 1, .bool true] ?_ ?_
  · refine stpm ?_
    exact stpx (fun _ _ => ex_igeq rfl rfl true rfl) .nil
  intro w19 hb19 HB21
  have A20 := A17.keep hb19.out
  refine wp_cond_true rfl ?_
  refine wp_skip ?_
  refine th_r ?_
  refine wp_seq ?_
  refine wp_block ?_
  refine rh0 HB21 [8, 9, 10, 11] [.int .i64 1, pq (γ1 0) 1, .int .u64 ((lb k 1 : Nat) : Int), .bool false] ?_ ?_
  · refine stpm ?_
    refine stpx (fun _ _ => ex_indexFr 1 rfl rfl (by decide)) ?_
    refine stpv (fun γ w h => ex_loadlimb (v := k) (o := 1) (K := 4) (A20.keep h.out) (by decide) rfl sgU64) ?_
    exact stpx (fun _ _ => ex_neqi rfl rfl false (by simp [h1])) .nil
  intro w22 hb22 HB24
  have A23 := A20.keep hb22.out
  refine wp_cond_false rfl ?_
  refine wp_skip ?_
  refine bk_n ?_
  refine th_r ?_
  refine wp_region_lit ?_
  refine svm (.int .i64 1) ?_
  refine sv1 (.int .i64 0) (ex_isub rfl rfl 0 rfl) ?_
  refine sva (.int .i64 0) ?_
  refine wpList_nil ?_
  refine th_r ?_
  rw [rounds_succ]
  refine wp_seq ?_
  refine rh0 HB24 [4, 5] [.int .i64 0, .bool true] ?_ ?_
  · refine stpm ?_
    exact stpx (fun _ _ => ex_igeq rfl rfl true rfl) .nil
  intro w25 hb25 HB27
  have A26 := A23.keep hb25.out
  refine wp_cond_true rfl ?_
  refine wp_skip ?_
  refine th_r ?_
  refine wp_seq ?_
  refine wp_block ?_
  refine rh0 HB27 [8, 9, 10, 11] [.int .i64 0, pz (γ1 0), .int .u64 ((lb k 0 : Nat) : Int), .bool false] ?_ ?_
  · refine stpm ?_
    refine stpx (fun _ _ => ex_indexFr 0 rfl rfl (by decide)) ?_
    refine stpv (fun γ w h => ex_loadlimb (v := k) (o := 0) (K := 4) (A26.keep h.out) (by decide) rfl sgU64) ?_
    exact stpx (fun _ _ => ex_neqi rfl rfl false (by simp [h0])) .nil
  intro w28 hb28 HB30
  refine wp_cond_false rfl ?_
  refine wp_skip ?_
  refine bk_n ?_
  refine th_r ?_
  refine wp_region_lit ?_
  refine svm (.int .i64 0) ?_
  refine sv1 (.int .i64 (-1)) (ex_isub rfl rfl (-1) rfl) ?_
  refine sva (.int .i64 (-1)) ?_
  refine wpList_nil ?_
  refine th_r ?_
  rw [rounds_succ]
  refine wp_seq ?_
  refine rh0 HB30 [4, 5] [.int .i64 (-1), .bool false] ?_ ?_
  · refine stpm ?_
    exact stpx (fun _ _ => ex_igeq rfl rfl false rfl) .nil
  intro w31 hb31 HB33
  refine wp_cond_false rfl ?_
  refine wp_exit (th_e (th_e (bk_e ?_)))
  refine th_r ?_
  refine rh0 HB33 [2] [.int .i64 0] ?_ ?_
  · exact stpa .nil
  intro w34 hb34 HB36
  exact wpr (ret1 Try.results41 (res_tmp rfl)) HB36
theorem onelength_q {k : Nat} (hk : k < frB) : ∃ L : Nat, L ≤ 256 ∧ k < 2 ^ L ∧ CI 41 #[nv 4 [k]] (.int .i64 ((L : Nat) : Int)) := by
  have b3 : k < 2 ^ (64 * (3 + 1)) := Nat.lt_of_lt_of_eq hk frB_eq
  by_cases h3 : lb k 3 = 0
  · have b2 := lb_top_zero b3 h3
    by_cases h2 : lb k 2 = 0
    · have b1 := lb_top_zero b2 h2
      by_cases h1 : lb k 1 = 0
      · have b0 := lb_top_zero b1 h1
        by_cases h0 : lb k 0 = 0
        · have bn := lb_top_zero b0 h0
          exact ⟨0, by decide, bn, fun w => onelength_no k h3 h2 h1 h0 w⟩
        · have l0 := lb_nbits k 0
          exact ⟨0 + nbits (lb k 0), by omega, lb_top_lt b0, fun w => onelength_0 k h3 h2 h1 h0 w⟩
      · have l1 := lb_nbits k 1
        exact ⟨64 + nbits (lb k 1), by omega, lb_top_lt b1, fun w => onelength_1 k h3 h2 h1 w⟩
    · have l2 := lb_nbits k 2
      exact ⟨128 + nbits (lb k 2), by omega, lb_top_lt b2, fun w => onelength_2 k h3 h2 w⟩
  · have l3 := lb_nbits k 3
    exact ⟨192 + nbits (lb k 3), by omega, lb_top_lt b3, fun w => onelength_3 k h3 w⟩
def oneT (s : Tri Zp) (k L : Nat) : Nat → Tri Zp
  | 0 => ⟨0, 1, 0⟩
  | j + 1 => if k / 2 ^ (L - (j + 1)) % 2 = 1 then plusT (12 : Zp) (twiceT (12 : Zp) (oneT s k L j)) s else twiceT (12 : Zp) (oneT s k L j)
theorem oneT_is {s : Tri Zp} {P : E1} (hs : s.Is P.pt) {k L : Nat} (hk : k < 2 ^ L) : ∀ j, j ≤ L → (oneT s k L j).Is (EP.times C1 (k / 2 ^ (L - j)) P).pt
  | 0, _ => by
    rw [Nat.sub_zero, Nat.div_eq_of_lt hk]
    exact ⟨rfl, rfl, one_ne FdP⟩
  | j + 1, hj => by
    have ih := oneT_is hs hk j (by omega)
    have e : L - j = L - (j + 1) + 1 := by omega
    rw [e, Nat.pow_succ, ← Nat.div_div_eq_div_mul] at ih
    unfold oneT
    generalize k / 2 ^ (L - (j + 1)) = m at ih ⊢
    generalize oneT s k L j = u at ih ⊢
    have h2 : (twiceT (12 : Zp) u).Is (EP.times C1 (m / 2 + m / 2) P).pt := by
      rw [EP.times_add, twelve]
      exact twice_ok FdP hN1 (EP.on _) ih (EP.sum C1 _ _)
    split
    · next h1 =>
      have em : m / 2 + m / 2 + 1 = m := by omega
      rw [← em]
      show Tri.Is _ ((EP.times C1 (m / 2 + m / 2) P).add C1 P).pt
      generalize twiceT (12 : Zp) u = v at h2 ⊢
      rw [twelve]
      exact plus_ok FdP hN1 (EP.on _) P.on h2 hs (EP.sum C1 _ _)
    · next h1 =>
      rw [show m / 2 + m / 2 = m by omega] at h2
      exact h2
theorem onetimes_v (s : Tri Zp) (k L : Nat) (hL256 : L ≤ 256) (hL : CI 41 #[nv 4 [k]] (.int .i64 ((L : Nat) : Int))) : CI 23 #[sv [.n 6 s.x.val, .n 6 s.y.val, .n 6 s.z.val], nv 4 [k]] (sv [.n 6 (((oneT s k L L).x).val), .n 6 (((oneT s k L L).y).val), .n 6 (((oneT s k L L).z).val)]) := fun w => by
  obtain ⟨T, hT⟩ : ∃ T, T = oneT s k L := ⟨_, rfl⟩
  obtain ⟨U, hU⟩ : ∃ U : Nat → Tri Zp, ∀ j, U j = twiceT (12 : Zp) (T j) := ⟨_, fun _ => rfl⟩
  obtain ⟨V, hV⟩ : ∃ V : Nat → Tri Zp, ∀ j, V j = plusT (12 : Zp) (U j) s := ⟨_, fun _ => rfl⟩
  have hS0 : ∀ j, k / 2 ^ (L - (j + 1)) % 2 = 0 → T (j + 1) = U j := fun j h => by
    rw [hU, hT]
    show (if _ then _ else _) = _
    rw [if_neg (by omega)]
  have hS1 : ∀ j, k / 2 ^ (L - (j + 1)) % 2 = 1 → T (j + 1) = V j := fun j h => by
    rw [hV, hU, hT]
    show (if _ then _ else _) = _
    rw [if_pos h]
  have hT0 : CI 40 #[] (sv [.n 6 (((T 0).x).val), .n 6 (((T 0).y).val), .n 6 (((T 0).z).val)]) := fun w => by
    have h := onenowhere_v w
    rw [onenowhere_t] at h
    rw [hT]
    exact h
  rw [← hT]
  go_enter Try.func23, Try.ntmps23
  refine rh3 (brf w) 56 0 [.n 6 s.x.val, .n 6 s.y.val, .n 6 s.z.val] 38 1 [.n 4 k] 56 2 [.n 6 0, .n 6 0, .n 6 0] [2, 3, 4] (fun γ => [pz (γ 0), pz (γ 1), pz (γ 2)]) ?_ ?_
  · refine stpb 0 (fun γ w h => ex_boxs (l := [.n 6 s.x.val, .n 6 s.y.val, .n 6 s.z.val]) rfl) ?_
    refine stpb 1 (fun γ w h => ex_boxsn (K := 4) (l := [k]) rfl) ?_
    exact stpb 2 (fun γ w h => ex_allocs (l := [.n 6 0, .n 6 0, .n 6 0]) zPG1) .nil
  intro γ1 w1 hb1 A2 A3 A4 _ _ le4 hn1 HB5
  refine rhc HB5 [(56, 1, 2, [.n 6 0, .n 6 0, .n 6 0], [.n 6 (((T 0).x).val), .n 6 (((T 0).y).val), .n 6 (((T 0).z).val)])] [7, 5] (fun γ => [sv [.n 6 (((T 0).x).val), .n 6 (((T 0).y).val), .n 6 (((T 0).z).val)], pz (γ 0)]) ?_ ?_
  · refine stpk Try.call40 (fun w h => hT0 _) ?_
    refine stpn 0 (fun γ w => ex_allocs (l := [.n 6 0, .n 6 0, .n 6 0]) zPG1) ?_
    exact stpq 0 0 3 flPG1.2 .nil
  intro γ6 w6 hb6 hB6 _ HB11
  have A7 := A2.keep hb6.out
  have A8 := A3.keep hb6.out
  have A9 := A4.keep hb6.out
  have A10 : SB 56 w6 (γ6 0) [.n 6 (((T 0).x).val), .n 6 (((T 0).y).val), .n 6 (((T 0).z).val)] := (hB6 0 rfl).2
  have le10 := (hB6 0 rfl).1
  refine wp_seq ?_
  refine rh0 HB11 [8, 9, 10, 6] [nv 4 [k], .int .i64 ((L : Nat) : Int), .int .i64 ((L : Int) - 1 - ((0 : Nat) : Int)), .int .i64 ((L : Int) - 1 - ((0 : Nat) : Int))] ?_ ?_
  · refine stpv (fun γ w h => ex_loadsn (K := 4) 0 1 (m := [k]) flFr rfl rfl (A8.keep h.out) rfl rfl) ?_
    refine stpk Try.call41 (fun w h => hL _) ?_
    refine stpx (fun _ _ => ex_isub rfl rfl ((L : Int) - 1 - ((0 : Nat) : Int)) (by rw [wrapI64 (by omega) (by omega)]; omega)) ?_
    exact stpa .nil
  intro w12 hb12 HB17
  have A13 := A7.keep hb12.out
  have A14 := A8.keep hb12.out
  have A15 := A9.keep hb12.out
  have A16 := A10.keep hb12.out
  refine wp_block ?_
  refine wp_loop_by (L) (fun q_ a_ v_ => ∃ j11 j12 j13 j14 j15 j16 j17 j18 j19 j20 j21 j22 j23 j24 j25 j26 j27 j28 : Value, a_ = ⟨#[sv [.n 6 s.x.val, .n 6 s.y.val, .n 6 s.z.val], nv 4 [k], pz (γ1 0), pz (γ1 1), pz (γ1 2), pz (γ6 0), .int .i64 ((L : Int) - 1 - ((q_ : Nat) : Int)), sv [.n 6 (((T 0).x).val), .n 6 (((T 0).y).val), .n 6 (((T 0).z).val)], nv 4 [k], .int .i64 ((L : Nat) : Int), .int .i64 ((L : Int) - 1 - ((0 : Nat) : Int)), j11, j12, j13, j14, j15, j16, j17, j18, j19, j20, j21, j22, j23, j24, j25, j26, j27, j28, undef], []⟩ ∧ SB 56 v_ (γ1 0) [.n 6 s.x.val, .n 6 s.y.val, .n 6 s.z.val] ∧ SB 38 v_ (γ1 1) [.n 4 k] ∧ SB 56 v_ (γ1 2) [.n 6 0, .n 6 0, .n 6 0] ∧ SB 56 v_ (γ6 0) [.n 6 (((T q_).x).val), .n 6 (((T q_).y).val), .n 6 (((T q_).z).val)] ∧ Below w.heap.size w v_) ⟨_, _, _, _, _, _, _, _, _, _, _, _, _, _, _, _, _, _, rfl, A13, A14, A15, A16, HB17⟩ ?_ ?_
  · intro k18 hk18
    rintro _ w18 ⟨i18_11, i18_12, i18_13, i18_14, i18_15, i18_16, i18_17, i18_18, i18_19, i18_20, i18_21, i18_22, i18_23, i18_24, i18_25, i18_26, i18_27, i18_28, rfl, A18_0, A18_1, A18_2, A18_3, HB18⟩ K18 hK18
    obtain ⟨n, hn⟩ : ∃ n, L = n + 1 + k18 := ⟨L - 1 - k18, by omega⟩
    have en : (L : Int) - 1 - ((k18 : Nat) : Int) = (n : Int) := by omega
    rw [en]
    have hn4 : n / 64 < 4 := by omega
    refine wp_seq ?_
    refine rh0 HB18 [11, 12] [.int .i64 (n : Int), .bool true] ?_ ?_
    · refine stpm ?_
      exact stpx (fun _ _ => ex_igeq rfl rfl true (by first | (simp; done) | (simp; omega))) .nil
    intro w19 hb19 HB24
    have A20 := A18_0.keep hb19.out
    have A21 := A18_1.keep hb19.out
    have A22 := A18_2.keep hb19.out
    have A23 := A18_3.keep hb19.out
    refine wp_cond_true rfl ?_
    refine wp_skip ?_
    refine th_r ?_
    refine wp_seq ?_
    refine wp_block ?_
    refine rhs HB24 (Nat.le_trans HB5.size le10) 2 0 [.n 6 (((U k18).x).val), .n 6 (((U k18).y).val), .n 6 (((U k18).z).val)] [15, 16] [sv [.n 6 (((T k18).x).val), .n 6 (((T k18).y).val), .n 6 (((T k18).z).val)], sv [.n 6 (((U k18).x).val), .n 6 (((U k18).y).val), .n 6 (((U k18).z).val)]] ?_ ?_
    · refine latv (fun γ w h => ex_loads 0 3 (m := [.n 6 (((T k18).x).val), .n 6 (((T k18).y).val), .n 6 (((T k18).z).val)]) flPG1 rfl rfl (A23.keep h.out) rfl rfl) ?_
      refine latk Try.call42 (fun w h => onetwice_q (hU k18) _) ?_
      exact latq 0 3 flPG1.2 A23 .nil
    intro w25 w25_ hb25 hs25 HB35
    have A26 := A20.keep hb25.out
    have A27 := A21.keep hb25.out
    have A28 := A22.keep hb25.out
    have A29 := A23.keep hb25.out
    have A31 := hs25.other (nelt (ltle A2.lt le10)) A26
    have A32 := hs25.other (nelt (ltle A3.lt le10)) A27
    have A33 := hs25.other (nelt (ltle A4.lt le10)) A28
    have A34 := hs25.here 0 3 (l' := [.n 6 (((U k18).x).val), .n 6 (((U k18).y).val), .n 6 (((U k18).z).val)]) A29 rfl rfl rfl
    rcases Nat.mod_two_eq_zero_or_one (k / 2 ^ n) with hb | hb
    · refine rh0 HB35 [17, 18, 19, 20, 21, 22, 23, 24, 25] [.int .i64 (n : Int), .int .i64 ((n / 64 : Nat) : Int), .pointer (some ⟨(γ1 1), n / 64, none⟩), .int .u64 ((lb k (n / 64) : Nat) : Int), .int .i64 (n : Int), .int .i64 ((n % 64 : Nat) : Int), .int .u64 ((lb k (n / 64) / 2 ^ (n % 64) : Nat) : Int), .int .u64 ((0 : Nat) : Int), .bool false] ?_ ?_
      · refine stpm ?_
        refine stpx (fun _ _ => ex_iquo (a := n) (b := 64) rfl rfl (by decide) (by omega)) ?_
        refine stpx (fun _ _ => ex_indexFr (n / 64) rfl rfl hn4) ?_
        refine stpv (fun γ w h => ex_loadlimb (v := k) (o := n / 64) (K := 4) (A32.keep h.out) hn4 rfl sgU64) ?_
        refine stpm ?_
        refine stpx (fun _ _ => ex_irem (a := n) (b := 64) rfl rfl (by decide)) ?_
        refine stpx (fun _ _ => ex_ushr rfl rfl (by omega)) ?_
        refine stpx (fun _ _ => ex_uand1 rfl rfl 0 (by rw [lb_is_bit]; exact hb) (Nat.lt_of_le_of_lt (Nat.div_le_self _ _) (lb_lt k (n / 64)))) ?_
        exact stpx (fun _ _ => ex_eqi rfl rfl false rfl) .nil
      intro w36 hb36 HB41
      have A37 := A31.keep hb36.out
      have A38 := A32.keep hb36.out
      have A39 := A33.keep hb36.out
      have A40 := A34.keep hb36.out
      refine wp_cond_false rfl ?_
      refine wp_skip ?_
      refine bk_n ?_
      refine th_r ?_
      refine wp_region_lit ?_
      refine svm (.int .i64 (n : Int)) ?_
      refine sv1 (.int .i64 ((L : Int) - 1 - ((k18 + 1 : Nat) : Int))) (ex_isub rfl rfl ((L : Int) - 1 - ((k18 + 1 : Nat) : Int)) (by rw [wrapI64 (by omega) (by omega)]; omega)) ?_
      refine sva (.int .i64 ((L : Int) - 1 - ((k18 + 1 : Nat) : Int))) ?_
      refine wpList_nil ?_
      refine th_r ?_
      exact hK18.out _ _ ⟨_, _, _, _, _, _, _, _, _, _, _, _, _, _, _, _, _, _, rfl, A37, A38, A39, (by rw [hS0 _ (by rw [show L - (_ + 1) = n by omega]; exact hb)]; exact A40), HB41⟩
    · refine rh0 HB35 [17, 18, 19, 20, 21, 22, 23, 24, 25] [.int .i64 (n : Int), .int .i64 ((n / 64 : Nat) : Int), .pointer (some ⟨(γ1 1), n / 64, none⟩), .int .u64 ((lb k (n / 64) : Nat) : Int), .int .i64 (n : Int), .int .i64 ((n % 64 : Nat) : Int), .int .u64 ((lb k (n / 64) / 2 ^ (n % 64) : Nat) : Int), .int .u64 ((1 : Nat) : Int), .bool true] ?_ ?_
      · refine stpm ?_
        refine stpx (fun _ _ => ex_iquo (a := n) (b := 64) rfl rfl (by decide) (by omega)) ?_
        refine stpx (fun _ _ => ex_indexFr (n / 64) rfl rfl hn4) ?_
        refine stpv (fun γ w h => ex_loadlimb (v := k) (o := n / 64) (K := 4) (A32.keep h.out) hn4 rfl sgU64) ?_
        refine stpm ?_
        refine stpx (fun _ _ => ex_irem (a := n) (b := 64) rfl rfl (by decide)) ?_
        refine stpx (fun _ _ => ex_ushr rfl rfl (by omega)) ?_
        refine stpx (fun _ _ => ex_uand1 rfl rfl 1 (by rw [lb_is_bit]; exact hb) (Nat.lt_of_le_of_lt (Nat.div_le_self _ _) (lb_lt k (n / 64)))) ?_
        exact stpx (fun _ _ => ex_eqi rfl rfl true rfl) .nil
      intro w42 hb42 HB47
      have A43 := A31.keep hb42.out
      have A44 := A32.keep hb42.out
      have A45 := A33.keep hb42.out
      have A46 := A34.keep hb42.out
      refine wp_cond_true rfl ?_
      refine region_s 3 ((γ6 0)) 0 (segs [.n 6 (((V k18).x).val), .n 6 (((V k18).y).val), .n 6 (((V k18).z).val)]) [26, 27, 28] [sv [.n 6 (((U k18).x).val), .n 6 (((U k18).y).val), .n 6 (((U k18).z).val)], sv [.n 6 s.x.val, .n 6 s.y.val, .n 6 s.z.val], sv [.n 6 (((V k18).x).val), .n 6 (((V k18).y).val), .n 6 (((V k18).z).val)]] ?_ ?_
      · refine latv (fun γ w h => ex_loads 0 3 (m := [.n 6 (((U k18).x).val), .n 6 (((U k18).y).val), .n 6 (((U k18).z).val)]) flPG1 rfl rfl (A46.keep h.out) rfl rfl) ?_
        refine latv (fun γ w h => ex_loads 0 3 (m := [.n 6 s.x.val, .n 6 s.y.val, .n 6 s.z.val]) flPG1 rfl rfl (A43.keep h.out) rfl rfl) ?_
        refine latk Try.call26 (fun w h => oneplus_q (hV k18) _) ?_
        exact latq 0 3 flPG1.2 A46 .nil
      intro w48 w48_ hb48 hs48
      have A49 := A43.keep hb48.out
      have A50 := A44.keep hb48.out
      have A51 := A45.keep hb48.out
      have A52 := A46.keep hb48.out
      have HB53 := below_then HB47 hb48.out
      have A54 := hs48.other (nelt (ltle A2.lt le10)) A49
      have A55 := hs48.other (nelt (ltle A3.lt le10)) A50
      have A56 := hs48.other (nelt (ltle A4.lt le10)) A51
      have A57 := hs48.here 0 3 (l' := [.n 6 (((V k18).x).val), .n 6 (((V k18).y).val), .n 6 (((V k18).z).val)]) A52 rfl rfl rfl
      have HB58 := hs48.below HB53 (Nat.le_trans HB5.size le10)
      refine bk_n ?_
      refine th_r ?_
      refine wp_region_lit ?_
      refine svm (.int .i64 (n : Int)) ?_
      refine sv1 (.int .i64 ((L : Int) - 1 - ((k18 + 1 : Nat) : Int))) (ex_isub rfl rfl ((L : Int) - 1 - ((k18 + 1 : Nat) : Int)) (by rw [wrapI64 (by omega) (by omega)]; omega)) ?_
      refine sva (.int .i64 ((L : Int) - 1 - ((k18 + 1 : Nat) : Int))) ?_
      refine wpList_nil ?_
      refine th_r ?_
      exact hK18.out _ _ ⟨_, _, _, _, _, _, _, _, _, _, _, _, _, _, _, _, _, _, rfl, A54, A55, A56, (by rw [hS1 _ (by rw [show L - (_ + 1) = n by omega]; exact hb)]; exact A57), HB58⟩
  · rintro _ w59 ⟨i59_11, i59_12, i59_13, i59_14, i59_15, i59_16, i59_17, i59_18, i59_19, i59_20, i59_21, i59_22, i59_23, i59_24, i59_25, i59_26, i59_27, i59_28, rfl, A59_0, A59_1, A59_2, A59_3, HB59⟩ K59
    refine wp_seq ?_
    refine rh0 HB59 [11, 12] [.int .i64 ((L : Int) - 1 - ((L : Nat) : Int)), .bool false] ?_ ?_
    · refine stpm ?_
      exact stpx (fun _ _ => ex_igeq rfl rfl false (by first | (simp; done) | (simp; omega))) .nil
    intro w60 hb60 HB65
    have A63 := A59_2.keep hb60.out
    have A64 := A59_3.keep hb60.out
    refine wp_cond_false rfl ?_
    refine wp_exit (th_e (th_e (bk_e ?_)))
    refine th_r ?_
    refine rhs HB65 le4 1 0 [.n 6 (((T L).x).val), .n 6 (((T L).y).val), .n 6 (((T L).z).val)] [29] [sv [.n 6 (((T L).x).val), .n 6 (((T L).y).val), .n 6 (((T L).z).val)]] ?_ ?_
    · refine latv (fun γ w h => ex_loads 0 3 (m := [.n 6 (((T L).x).val), .n 6 (((T L).y).val), .n 6 (((T L).z).val)]) flPG1 rfl rfl (A64.keep h.out) rfl rfl) ?_
      exact latq 0 3 flPG1.2 A63 .nil
    intro w66 w66_ hb66 hs66 HB76
    have A69 := A63.keep hb66.out
    have A74 := hs66.here 0 3 (l' := [.n 6 (((T L).x).val), .n 6 (((T L).y).val), .n 6 (((T L).z).val)]) A69 rfl rfl rfl
    exact wpr (ret1 Try.results23 (res_sv rfl A74 flPG1 rfl)) HB76
theorem onetimes_q {s : Tri Zp} {P : E1} (hs : s.Is P.pt) {k : Nat} (hk : k < frB) : ∃ u : Tri Zp, u.Is (EP.times C1 k P).pt ∧ CI 23 #[sv [.n 6 s.x.val, .n 6 s.y.val, .n 6 s.z.val], nv 4 [k]] (sv [.n 6 u.x.val, .n 6 u.y.val, .n 6 u.z.val]) := by
  obtain ⟨L, h1, h2, h3⟩ := onelength_q hk
  have h := oneT_is hs h2 L (Nat.le_refl _)
  rw [Nat.sub_self, Nat.pow_zero, Nat.div_one] at h
  exact ⟨_, h, fun w => onetimes_v s k L h1 h3 w⟩
theorem oneMul_p (P R : E1) (k : Nat) (hk : k < frB) (hs : EP.times C1 k P = R) : CI 11 #[sv [.n 6 (ax P.pt), .n 6 (ay P.pt), .b (ai P.pt)], nv 4 [k]] (.tuple #[sv [.n 6 (ax R.pt), .n 6 (ay R.pt), .b (ai R.pt)], .int .i64 0]) := fun w => by
  obtain ⟨u, hR, hu⟩ := onetimes_q (oneTri_is P.pt) hk
  rw [hs] at hR
  go_enter Try.func11, Try.ntmps11
  refine rh3 (brf w) 28 0 [.n 6 (ax P.pt), .n 6 (ay P.pt), .b (ai P.pt)] 38 1 [.n 4 k] 28 2 [.n 6 0, .n 6 0, .b false] [2, 3, 4, 5] (fun γ => [pz (γ 0), pz (γ 1), pz (γ 2), .int .i64 0]) ?_ ?_
  · refine stpb 0 (fun γ w h => ex_boxs (l := [.n 6 (ax P.pt), .n 6 (ay P.pt), .b (ai P.pt)]) rfl) ?_
    refine stpb 1 (fun γ w h => ex_boxsn (K := 4) (l := [k]) rfl) ?_
    refine stpb 2 (fun γ w h => ex_allocs (l := [.n 6 0, .n 6 0, .b false]) zG1) ?_
    exact stpa .nil
  intro γ1 w1 hb1 A2 A3 A4 _ _ le4 hn1 HB5
  refine wp_seq ?_
  refine rh0 HB5 [6, 7, 8] [sv [.n 6 (ax P.pt), .n 6 (ay P.pt), .b (ai P.pt)], .bool true, .bool false] ?_ ?_
  · refine stpv (fun γ w h => ex_loads 0 3 (m := [.n 6 (ax P.pt), .n 6 (ay P.pt), .b (ai P.pt)]) flG1 rfl rfl (A2.keep h.out) rfl rfl) ?_
    refine stpk Try.call6 (fun w h => oneRight_p P _) ?_
    exact stpx (fun _ _ => ex_not (r := true) rfl) .nil
  intro w6 hb6 HB10
  have A7 := A2.keep hb6.out
  have A8 := A3.keep hb6.out
  have A9 := A4.keep hb6.out
  refine wp_cond_false rfl ?_
  refine wp_skip ?_
  refine th_r ?_
  refine rhs HB10 le4 5 0 [.n 6 (ax R.pt), .n 6 (ay R.pt), .b (ai R.pt)] [10, 11, 12, 13, 14, 5] [sv [.n 6 (ax P.pt), .n 6 (ay P.pt), .b (ai P.pt)], sv [.n 6 (((oneTri P.pt).x).val), .n 6 (((oneTri P.pt).y).val), .n 6 (((oneTri P.pt).z).val)], nv 4 [k], sv [.n 6 u.x.val, .n 6 u.y.val, .n 6 u.z.val], sv [.n 6 (ax R.pt), .n 6 (ay R.pt), .b (ai R.pt)], .int .i64 0] ?_ ?_
  · refine latv (fun γ w h => ex_loads 0 3 (m := [.n 6 (ax P.pt), .n 6 (ay P.pt), .b (ai P.pt)]) flG1 rfl rfl (A7.keep h.out) rfl rfl) ?_
    refine latk Try.call22 (fun w h => onebring_q P.pt _) ?_
    refine latv (fun γ w h => ex_loadsn (K := 4) 0 1 (m := [k]) flFr rfl rfl (A8.keep h.out) rfl rfl) ?_
    refine latk Try.call23 (fun w h => hu _) ?_
    refine latk Try.call24 (fun w h => oneback_q hR _) ?_
    refine latq 0 3 flG1.2 A9 ?_
    exact latf (fun γ w => ex_assign _) .nil
  intro w11 w11_ hb11 hs11 HB19
  have A14 := A9.keep hb11.out
  have A18 := hs11.here 0 3 (l' := [.n 6 (ax R.pt), .n 6 (ay R.pt), .b (ai R.pt)]) A14 rfl rfl rfl
  exact wpr (ret2 Try.results11 (res_sv rfl A18 flG1 rfl) (res_tmp rfl)) HB19
theorem lit_g1x : nv 6 [g1x] = .agg #[.int .u64 18103045581585958587, .int .u64 7806400890582735599, .int .u64 11623291730934869080, .int .u64 14080658508445169925, .int .u64 2780237799254240271, .int .u64 1725392847304644500] := by rw [nv6]; kernel_rfl
theorem lit_g1y : nv 6 [g1y] = .agg #[.int .u64 912580534683953121, .int .u64 15005087156090211044, .int .u64 61670280795567085, .int .u64 18227722000993880822, .int .u64 11573741888802228964, .int .u64 627113611842199793] := by rw [nv6]; kernel_rfl
theorem oneGen_v : CI 19 #[] (sv [.n 6 g1x, .n 6 g1y, .b false]) := fun w => by
  go_enter Try.func19, Try.ntmps19
  refine rh1 (brf w) 28 0 [.n 6 0, .n 6 0, .b false] [0] (fun γ => [pz (γ 0)]) ?_ ?_
  · exact stpb 0 (fun γ w h => ex_allocs (l := [.n 6 0, .n 6 0, .b false]) zG1) .nil
  intro γ1 w1 hb1 A2 le2 HB3
  refine rhs HB3 le2 3 0 [.n 6 g1x, .n 6 g1y, .b false] [1, 2, 3] [nv 6 [g1x], nv 6 [g1y], sv [.n 6 g1x, .n 6 g1y, .b false]] ?_ ?_
  · refine latv (fun γ w h => ex_six lit_g1x (fun _ => rfl)) ?_
    refine latv (fun γ w h => ex_six lit_g1y (fun _ => rfl)) ?_
    refine latv (fun γ w h => ex_builds stG1 (l := [.n 6 g1x, .n 6 g1y, .b false]) (vs := [(0, nv 6 [g1x]), (1, nv 6 [g1y])]) rfl ((fills_cons 0 1 (m := [.n 6 g1x]) (z' := [.n 6 g1x, .n 6 0, .b false]) rfl (nv_cells 6 [g1x]) rfl rfl rfl rfl).trans ((fills_cons 1 1 (m := [.n 6 g1y]) (z' := [.n 6 g1x, .n 6 g1y, .b false]) rfl (nv_cells 6 [g1y]) rfl rfl rfl rfl).trans rfl))) ?_
    exact latq 0 3 flG1.2 A2 .nil
  intro w4 w4_ hb4 hs4 HB8
  have A5 := A2.keep hb4.out
  have A7 := hs4.here 0 3 (l' := [.n 6 g1x, .n 6 g1y, .b false]) A5 rfl rfl rfl
  exact wpr (ret1 Try.results19 (res_sv rfl A7 flG1 rfl)) HB8
theorem onegen_t : sv [.n 6 g1x, .n 6 g1y, .b false] = sv [.n 6 (ax G1.pt), .n 6 (ay G1.pt), .b (ai G1.pt)] := by
  have h0 : g1x = ax G1.pt := by decide +kernel
  have h1 : g1y = ay G1.pt := by decide +kernel
  rw [← h0, ← h1]
  rfl
theorem oneGen_p (w : World) : Calls Try.prog 19 #[] w (Is (sv [.n 6 (ax G1.pt), .n 6 (ay G1.pt), .b (ai G1.pt)]) w) := by
  rw [← onegen_t]
  exact oneGen_v w
def Z1 : E1 := EP.zero
theorem oneZero_p (w : World) : Calls Try.prog 10 #[] w (Is (sv [.n 6 (ax Z1.pt), .n 6 (ay Z1.pt), .b (ai Z1.pt)]) w) := oneZero_v w
end Go.Proofs.Ytkkmekdhejhapaa

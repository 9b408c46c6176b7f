/- What is proved here: package sum: bits and lengths of numbers, how many bits a digit has, how many digits. -/
import Derived.Test.YtkkmekdhejhapaaSum1
import Derived.Test.YtkkmekdhejhapaaLimb
namespace Go.Proofs.Ytkkmekdhejhapaa
open Go.RowKit Cv
section
variable {ρ : Operand → Value} {d : Option Tmp} {ty0 : TypeId} {pos : String} {after : Array Edge} {guard : Option (Nat × Bool)} {w : World}
theorem ex_cvN {x : Operand} {a : Nat} (hx : ρ x = .int .u64 (a : Int)) (ha : a < 1000000) :
    (execOp ρ ⟨d, .convert 24 3 x, ty0, pos, after, guard⟩).run Try.prog w = .ok (.value (.int .i64 (a : Int))) w := by
  have h := wrapI64 (a := (a : Int)) (by omega) (by omega)
  simp [execOp, hx, go_sem, h]
theorem ex_imaxr {x y : Operand} {tys : Array TypeId} {a b : Int} (hx : ρ x = .int .i64 a) (hy : ρ y = .int .i64 b) (r : Int) (hr : r = max a b) :
    (execOp ρ ⟨d, .call ⟨.builtin .max, #[x, y], tys⟩, ty0, pos, after, guard⟩).run Try.prog w = .ok (.value (.int .i64 r)) w := by
  subst hr
  exact ex_imax hx hy
theorem ex_cvW {x : Operand} {a : Nat} (hx : ρ x = .int .i64 (a : Int)) (ha : a < 1000000) :
    (execOp ρ ⟨d, .convert 3 105 x, ty0, pos, after, guard⟩).run Try.prog w = .ok (.value (.int .u64 (a : Int))) w := by
  have h := wrap64 (a := (a : Int)) (by omega) (by omega)
  simp [execOp, hx, go_sem, h]
end
set_option maxRecDepth 20000 in
set_option maxHeartbeats 4000000 in
theorem sumbit_low (k q : Nat) (hq : q < 256) (w : World) :
    Calls Try.prog 81 #[nv 4 [k], .int .i64 ((q : Nat) : Int)] w (Is (.int .i64 ((k / 2 ^ q % 2 : Nat) : Int)) w) := by
  have hq4 : q / 64 < 4 := by omega
  go_enter Try.func81, Try.ntmps81
  refine wp_seq (region_c 1 (fun _ => 38) (fun _ => 0) (fun _ => 0) (fun _ => segs [.n 4 k]) (fun _ => segs [.n 4 k]) [2, 4] (fun γ => [.pointer (some ⟨γ 0, 0, none⟩), .int .i64 0]) ?_ ?_)
  · refine GSteps.cons (gm_box 0 rfl (fun _ => rfl) (fun _ _ => rfl) (fun γ w h => ex_boxsn (K := 4) (l := [k]) rfl) rfl rfl rfl) ?_
    refine stpx (fun _ _ => ex_assign _) ?_
    exact GSteps.nil
  intro γ1 w1 hb1 hB1 _
  refine th_r ?_
  have A2 : SB 38 w1 (γ1 0) [.n 4 k] := (hB1 0 (by decide)).2
  have le2 := (hB1 0 (by decide)).1
  have HB3 := below_then (Below.refl w.heap.size w) hb1.out
  refine wp_seq ?_
  refine wp_seq (region_0 [5, 6] [.int .i64 ((q : Nat) : Int), .bool false] ?_ ?_)
  · refine stpx (fun _ _ => ex_move _) ?_
    refine stpx (fun _ _ => ex_igeq rfl rfl false (by rw [eq_comm, decide_eq_false_iff_not]; omega)) ?_
    exact GSteps.nil
  intro w4 hb4
  refine th_r ?_
  have A5 := A2.keep hb4.out
  have HB6 := below_then HB3 hb4.out
  refine wp_cond_false rfl ?_
  refine wp_skip ?_
  refine th_r ?_
  refine wp_seq (region_0 [7, 8, 9, 10, 11, 12, 13, 14, 15, 4] [.int .i64 ((q : Nat) : Int), .int .i64 ((q / 64 : Nat) : Int), .pointer (some ⟨(γ1 0), q / 64, none⟩), .int .u64 ((lb k (q / 64) : Nat) : Int), .int .i64 ((q : Nat) : Int), .int .i64 ((q % 64 : Nat) : Int), .int .u64 ((lb k (q / 64) / 2 ^ (q % 64) : Nat) : Int), .int .u64 ((k / 2 ^ q % 2 : Nat) : Int), .int .i64 ((k / 2 ^ q % 2 : Nat) : Int), .int .i64 ((k / 2 ^ q % 2 : Nat) : Int)] ?_ ?_)
  · refine stpx (fun _ _ => ex_move _) ?_
    refine stpx (fun _ _ => ex_iquo (a := q) (b := 64) rfl rfl (by decide) (by omega)) ?_
    refine stpx (fun _ _ => ex_indexFr (q / 64) rfl rfl hq4) ?_
    refine stpv (fun γ w h => ex_loadlimb (v := k) (o := q / 64) (K := 4) (A5.keep h.out) hq4 rfl sgU64) ?_
    refine stpx (fun _ _ => ex_move _) ?_
    refine stpx (fun _ _ => ex_irem (a := q) (b := 64) rfl rfl (by decide)) ?_
    refine stpx (fun _ _ => ex_ushr rfl rfl (by omega)) ?_
    refine stpx (fun _ _ => ex_uand1 rfl rfl (k / 2 ^ q % 2) (lb_is_bit k q) (Nat.lt_of_le_of_lt (Nat.div_le_self _ _) (lb_lt k (q / 64)))) ?_
    refine stpx (fun _ _ => ex_cvN rfl (by omega)) ?_
    refine stpx (fun _ _ => ex_assign _) ?_
    exact GSteps.nil
  intro w7 hb7
  refine th_r ?_
  have A8 := A5.keep hb7.out
  have HB9 := below_then HB6 hb7.out
  exact wp_ret (bodyPost_ret (ret1 Try.results81 (res_tmp rfl)) rfl ⟨rfl, HB9⟩)
set_option maxRecDepth 20000 in
set_option maxHeartbeats 4000000 in
theorem sumbit_big (k q : Nat) (hq : 256 ≤ q) (w : World) :
    Calls Try.prog 81 #[nv 4 [k], .int .i64 ((q : Nat) : Int)] w (Is (.int .i64 0) w) := by
  go_enter Try.func81, Try.ntmps81
  refine wp_seq (region_c 1 (fun _ => 38) (fun _ => 0) (fun _ => 0) (fun _ => segs [.n 4 k]) (fun _ => segs [.n 4 k]) [2, 4] (fun γ => [.pointer (some ⟨γ 0, 0, none⟩), .int .i64 0]) ?_ ?_)
  · refine GSteps.cons (gm_box 0 rfl (fun _ => rfl) (fun _ _ => rfl) (fun γ w h => ex_boxsn (K := 4) (l := [k]) rfl) rfl rfl rfl) ?_
    refine stpx (fun _ _ => ex_assign _) ?_
    exact GSteps.nil
  intro γ1 w1 hb1 hB1 _
  refine th_r ?_
  have A2 : SB 38 w1 (γ1 0) [.n 4 k] := (hB1 0 (by decide)).2
  have le2 := (hB1 0 (by decide)).1
  have HB3 := below_then (Below.refl w.heap.size w) hb1.out
  refine wp_seq ?_
  refine wp_seq (region_0 [5, 6] [.int .i64 ((q : Nat) : Int), .bool true] ?_ ?_)
  · refine stpx (fun _ _ => ex_move _) ?_
    refine stpx (fun _ _ => ex_igeq rfl rfl true (by rw [eq_comm, decide_eq_true_eq]; omega)) ?_
    exact GSteps.nil
  intro w4 hb4
  refine th_r ?_
  have A5 := A2.keep hb4.out
  have HB6 := below_then HB3 hb4.out
  refine wp_cond_true rfl ?_
  refine wp_seq (region_0 [4] [.int .i64 0] ?_ ?_)
  · refine stpx (fun _ _ => ex_assign _) ?_
    exact GSteps.nil
  intro w7 hb7
  refine th_r ?_
  have A8 := A5.keep hb7.out
  have HB9 := below_then HB6 hb7.out
  exact wp_ret (th_ret (bodyPost_ret (ret1 Try.results81 (res_tmp rfl)) rfl ⟨rfl, HB9⟩))
theorem sumbit_v (k q : Nat) (hk : k < frB) (w : World) : Calls Try.prog 81 #[nv 4 [k], .int .i64 ((q : Nat) : Int)] w (Is (.int .i64 ((k / 2 ^ q % 2 : Nat) : Int)) w) := by
  by_cases hq : q < 256
  · exact sumbit_low k q hq w
  · have h := sumbit_big k q (by omega) w
    have e : k / 2 ^ q % 2 = 0 := by
      rw [Nat.div_eq_of_lt (Nat.lt_of_lt_of_le hk (by rw [frB_eq]; exact Nat.pow_le_pow_right (by decide) (by omega)))]
    rw [e]
    exact h
set_option maxRecDepth 20000 in
set_option maxHeartbeats 4000000 in
theorem sumlength_3 (k : Nat)  (h3 : lb k 3 ≠ 0) (w : World) :
    Calls Try.prog 80 #[nv 4 [k]] w (Is (.int .i64 ((192 + nbits (lb k 3) : Nat) : Int)) w) := by
  go_enter Try.func80, Try.ntmps80
  refine wp_seq (region_c 1 (fun _ => 38) (fun _ => 0) (fun _ => 0) (fun _ => segs [.n 4 k]) (fun _ => segs [.n 4 k]) [1, 2] (fun γ => [.pointer (some ⟨γ 0, 0, none⟩), .int .i64 0]) ?_ ?_)
  · refine GSteps.cons (gm_box 0 rfl (fun _ => rfl) (fun _ _ => rfl) (fun γ w h => ex_boxsn (K := 4) (l := [k]) rfl) rfl rfl rfl) ?_
    refine stpx (fun _ _ => ex_assign _) ?_
    exact GSteps.nil
  intro γ1 w1 hb1 hB1 _
  refine th_r ?_
  have A2 : SB 38 w1 (γ1 0) [.n 4 k] := (hB1 0 (by decide)).2
  have le2 := (hB1 0 (by decide)).1
  have HB3 := below_then (Below.refl w.heap.size w) hb1.out
  refine wp_seq ?_
  refine wp_seq (region_0 [3] [.int .i64 3] ?_ ?_)
  · refine stpx (fun _ _ => ex_assign _) ?_
    exact GSteps.nil
  intro w4 hb4
  refine th_r ?_
  have A5 := A2.keep hb4.out
  have HB6 := below_then HB3 hb4.out
  refine wp_block ?_
  refine wp_loop_rounds 6 ?_
  rw [rounds_succ]
  refine wp_seq ?_
  refine wp_seq (region_0 [4, 5] [.int .i64 3, .bool true] ?_ ?_)
  · refine stpx (fun _ _ => ex_move _) ?_
    refine stpx (fun _ _ => ex_igeq rfl rfl true rfl) ?_
    exact GSteps.nil
  intro w7 hb7
  refine th_r ?_
  have A8 := A5.keep hb7.out
  have HB9 := below_then HB6 hb7.out
  refine wp_cond_true rfl ?_
  refine wp_skip ?_
  refine th_r ?_
  refine wp_seq ?_
  refine wp_block ?_
  refine wp_seq (region_0 [8, 9, 10, 11] [.int .i64 3, .pointer (some ⟨(γ1 0), 3, none⟩), .int .u64 ((lb k 3 : Nat) : Int), .bool true] ?_ ?_)
  · refine stpx (fun _ _ => ex_move _) ?_
    refine stpx (fun _ _ => ex_indexFr 3 rfl rfl (by decide)) ?_
    refine stpv (fun γ w h => ex_loadlimb (v := k) (o := 3) (K := 4) (A8.keep h.out) (by decide) rfl sgU64) ?_
    refine stpx (fun _ _ => ex_neqi rfl rfl true (by simp [h3])) ?_
    exact GSteps.nil
  intro w10 hb10
  refine th_r ?_
  have A11 := A8.keep hb10.out
  have HB12 := below_then HB9 hb10.out
  refine wp_cond_true rfl ?_
  refine wp_seq (region_0 [12, 13, 14, 15, 16, 17, 18, 2] [.int .i64 3, .int .i64 192, .int .i64 3, .pointer (some ⟨(γ1 0), 3, none⟩), .int .u64 ((lb k 3 : Nat) : Int), .int .i64 ((nbits (lb k 3) : Nat) : Int), .int .i64 ((192 + nbits (lb k 3) : Nat) : Int), .int .i64 ((192 + nbits (lb k 3) : Nat) : Int)] ?_ ?_)
  · refine stpx (fun _ _ => ex_move _) ?_
    refine stpx (fun _ _ => ex_imul rfl rfl 192 rfl) ?_
    refine stpx (fun _ _ => ex_move _) ?_
    refine stpx (fun _ _ => ex_indexFr 3 rfl rfl (by decide)) ?_
    refine stpv (fun γ w h => ex_loadlimb (v := k) (o := 3) (K := 4) (A11.keep h.out) (by decide) rfl sgU64) ?_
    refine stpc (.int .i64 ((nbits (lb k 3) : Nat) : Int)) (fun γ w => ex_call (vs := [.int .u64 ((lb k 3 : Nat) : Int)]) rfl Try.call69 rfl) (fun w h => len64_is _ _ (lb_lt k 3)) ?_
    refine stpx (fun _ _ => ex_iadd rfl rfl ((192 + nbits (lb k 3) : Nat) : Int) (by have := lb_nbits k 3; rw [wrapI64 (by omega) (by omega)]; omega)) ?_
    refine stpx (fun _ _ => ex_assign _) ?_
    exact GSteps.nil
  intro w13 hb13
  refine th_r ?_
  have A14 := A11.keep hb13.out
  have HB15 := below_then HB12 hb13.out
  exact wp_ret (bk_r (th_ret (th_ret (bk_r (th_ret (bodyPost_ret (ret1 Try.results80 (res_tmp rfl)) rfl ⟨rfl, HB15⟩))))))
set_option maxRecDepth 20000 in
set_option maxHeartbeats 4000000 in
theorem sumlength_2 (k : Nat) (h3 : lb k 3 = 0) (h2 : lb k 2 ≠ 0) (w : World) :
    Calls Try.prog 80 #[nv 4 [k]] w (Is (.int .i64 ((128 + nbits (lb k 2) : Nat) : Int)) w) := by
  go_enter Try.func80, Try.ntmps80
  refine wp_seq (region_c 1 (fun _ => 38) (fun _ => 0) (fun _ => 0) (fun _ => segs [.n 4 k]) (fun _ => segs [.n 4 k]) [1, 2] (fun γ => [.pointer (some ⟨γ 0, 0, none⟩), .int .i64 0]) ?_ ?_)
  · refine GSteps.cons (gm_box 0 rfl (fun _ => rfl) (fun _ _ => rfl) (fun γ w h => ex_boxsn (K := 4) (l := [k]) rfl) rfl rfl rfl) ?_
    refine stpx (fun _ _ => ex_assign _) ?_
    exact GSteps.nil
  intro γ1 w1 hb1 hB1 _
  refine th_r ?_
  have A2 : SB 38 w1 (γ1 0) [.n 4 k] := (hB1 0 (by decide)).2
  have le2 := (hB1 0 (by decide)).1
  have HB3 := below_then (Below.refl w.heap.size w) hb1.out
  refine wp_seq ?_
  refine wp_seq (region_0 [3] [.int .i64 3] ?_ ?_)
  · refine stpx (fun _ _ => ex_assign _) ?_
    exact GSteps.nil
  intro w4 hb4
  refine th_r ?_
  have A5 := A2.keep hb4.out
  have HB6 := below_then HB3 hb4.out
  refine wp_block ?_
  refine wp_loop_rounds 6 ?_
  rw [rounds_succ]
  refine wp_seq ?_
  refine wp_seq (region_0 [4, 5] [.int .i64 3, .bool true] ?_ ?_)
  · refine stpx (fun _ _ => ex_move _) ?_
    refine stpx (fun _ _ => ex_igeq rfl rfl true rfl) ?_
    exact GSteps.nil
  intro w7 hb7
  refine th_r ?_
  have A8 := A5.keep hb7.out
  have HB9 := below_then HB6 hb7.out
  refine wp_cond_true rfl ?_
  refine wp_skip ?_
  refine th_r ?_
  refine wp_seq ?_
  refine wp_block ?_
  refine wp_seq (region_0 [8, 9, 10, 11] [.int .i64 3, .pointer (some ⟨(γ1 0), 3, none⟩), .int .u64 ((lb k 3 : Nat) : Int), .bool false] ?_ ?_)
  · refine stpx (fun _ _ => ex_move _) ?_
    refine stpx (fun _ _ => ex_indexFr 3 rfl rfl (by decide)) ?_
    refine stpv (fun γ w h => ex_loadlimb (v := k) (o := 3) (K := 4) (A8.keep h.out) (by decide) rfl sgU64) ?_
    refine stpx (fun _ _ => ex_neqi rfl rfl false (by simp [h3])) ?_
    exact GSteps.nil
  intro w10 hb10
  refine th_r ?_
  have A11 := A8.keep hb10.out
  have HB12 := below_then HB9 hb10.out
  refine wp_cond_false rfl ?_
  refine wp_skip ?_
  refine bk_n ?_
  refine th_r ?_
  refine wp_region_lit ?_
  refine sv1 (.int .i64 3) (ex_move _) ?_
  refine sv1 (.int .i64 2) (ex_isub rfl rfl 2 rfl) ?_
  refine sv1 (.int .i64 2) (ex_assign _) ?_
  refine wpList_nil ?_
  refine th_r ?_
  rw [rounds_succ]
  refine wp_seq ?_
  refine wp_seq (region_0 [4, 5] [.int .i64 2, .bool true] ?_ ?_)
  · refine stpx (fun _ _ => ex_move _) ?_
    refine stpx (fun _ _ => ex_igeq rfl rfl true rfl) ?_
    exact GSteps.nil
  intro w13 hb13
  refine th_r ?_
  have A14 := A11.keep hb13.out
  have HB15 := below_then HB12 hb13.out
  refine wp_cond_true rfl ?_
  refine wp_skip ?_
  refine th_r ?_
  refine wp_seq ?_
  refine wp_block ?_
  refine wp_seq (region_0 [8, 9, 10, 11] [.int .i64 2, .pointer (some ⟨(γ1 0), 2, none⟩), .int .u64 ((lb k 2 : Nat) : Int), .bool true] ?_ ?_)
  · refine stpx (fun _ _ => ex_move _) ?_
    refine stpx (fun _ _ => ex_indexFr 2 rfl rfl (by decide)) ?_
    refine stpv (fun γ w h => ex_loadlimb (v := k) (o := 2) (K := 4) (A14.keep h.out) (by decide) rfl sgU64) ?_
    refine stpx (fun _ _ => ex_neqi rfl rfl true (by simp [h2])) ?_
    exact GSteps.nil
  intro w16 hb16
  refine th_r ?_
  have A17 := A14.keep hb16.out
  have HB18 := below_then HB15 hb16.out
  refine wp_cond_true rfl ?_
  refine wp_seq (region_0 [12, 13, 14, 15, 16, 17, 18, 2] [.int .i64 2, .int .i64 128, .int .i64 2, .pointer (some ⟨(γ1 0), 2, none⟩), .int .u64 ((lb k 2 : Nat) : Int), .int .i64 ((nbits (lb k 2) : Nat) : Int), .int .i64 ((128 + nbits (lb k 2) : Nat) : Int), .int .i64 ((128 + nbits (lb k 2) : Nat) : Int)] ?_ ?_)
  · refine stpx (fun _ _ => ex_move _) ?_
    refine stpx (fun _ _ => ex_imul rfl rfl 128 rfl) ?_
    refine stpx (fun _ _ => ex_move _) ?_
    refine stpx (fun _ _ => ex_indexFr 2 rfl rfl (by decide)) ?_
    refine stpv (fun γ w h => ex_loadlimb (v := k) (o := 2) (K := 4) (A17.keep h.out) (by decide) rfl sgU64) ?_
    refine stpc (.int .i64 ((nbits (lb k 2) : Nat) : Int)) (fun γ w => ex_call (vs := [.int .u64 ((lb k 2 : Nat) : Int)]) rfl Try.call69 rfl) (fun w h => len64_is _ _ (lb_lt k 2)) ?_
    refine stpx (fun _ _ => ex_iadd rfl rfl ((128 + nbits (lb k 2) : Nat) : Int) (by have := lb_nbits k 2; rw [wrapI64 (by omega) (by omega)]; omega)) ?_
    refine stpx (fun _ _ => ex_assign _) ?_
    exact GSteps.nil
  intro w19 hb19
  refine th_r ?_
  have A20 := A17.keep hb19.out
  have HB21 := below_then HB18 hb19.out
  exact wp_ret (bk_r (th_ret (th_ret (bk_r (th_ret (bodyPost_ret (ret1 Try.results80 (res_tmp rfl)) rfl ⟨rfl, HB21⟩))))))
set_option maxRecDepth 20000 in
set_option maxHeartbeats 4000000 in
theorem sumlength_1 (k : Nat) (h3 : lb k 3 = 0) (h2 : lb k 2 = 0) (h1 : lb k 1 ≠ 0) (w : World) :
    Calls Try.prog 80 #[nv 4 [k]] w (Is (.int .i64 ((64 + nbits (lb k 1) : Nat) : Int)) w) := by
  go_enter Try.func80, Try.ntmps80
  refine wp_seq (region_c 1 (fun _ => 38) (fun _ => 0) (fun _ => 0) (fun _ => segs [.n 4 k]) (fun _ => segs [.n 4 k]) [1, 2] (fun γ => [.pointer (some ⟨γ 0, 0, none⟩), .int .i64 0]) ?_ ?_)
  · refine GSteps.cons (gm_box 0 rfl (fun _ => rfl) (fun _ _ => rfl) (fun γ w h => ex_boxsn (K := 4) (l := [k]) rfl) rfl rfl rfl) ?_
    refine stpx (fun _ _ => ex_assign _) ?_
    exact GSteps.nil
  intro γ1 w1 hb1 hB1 _
  refine th_r ?_
  have A2 : SB 38 w1 (γ1 0) [.n 4 k] := (hB1 0 (by decide)).2
  have le2 := (hB1 0 (by decide)).1
  have HB3 := below_then (Below.refl w.heap.size w) hb1.out
  refine wp_seq ?_
  refine wp_seq (region_0 [3] [.int .i64 3] ?_ ?_)
  · refine stpx (fun _ _ => ex_assign _) ?_
    exact GSteps.nil
  intro w4 hb4
  refine th_r ?_
  have A5 := A2.keep hb4.out
  have HB6 := below_then HB3 hb4.out
  refine wp_block ?_
  refine wp_loop_rounds 6 ?_
  rw [rounds_succ]
  refine wp_seq ?_
  refine wp_seq (region_0 [4, 5] [.int .i64 3, .bool true] ?_ ?_)
  · refine stpx (fun _ _ => ex_move _) ?_
    refine stpx (fun _ _ => ex_igeq rfl rfl true rfl) ?_
    exact GSteps.nil
  intro w7 hb7
  refine th_r ?_
  have A8 := A5.keep hb7.out
  have HB9 := below_then HB6 hb7.out
  refine wp_cond_true rfl ?_
  refine wp_skip ?_
  refine th_r ?_
  refine wp_seq ?_
  refine wp_block ?_
  refine wp_seq (region_0 [8, 9, 10, 11] [.int .i64 3, .pointer (some ⟨(γ1 0), 3, none⟩), .int .u64 ((lb k 3 : Nat) : Int), .bool false] ?_ ?_)
  · refine stpx (fun _ _ => ex_move _) ?_
    refine stpx (fun _ _ => ex_indexFr 3 rfl rfl (by decide)) ?_
    refine stpv (fun γ w h => ex_loadlimb (v := k) (o := 3) (K := 4) (A8.keep h.out) (by decide) rfl sgU64) ?_
    refine stpx (fun _ _ => ex_neqi rfl rfl false (by simp [h3])) ?_
    exact GSteps.nil
  intro w10 hb10
  refine th_r ?_
  have A11 := A8.keep hb10.out
  have HB12 := below_then HB9 hb10.out
  refine wp_cond_false rfl ?_
  refine wp_skip ?_
  refine bk_n ?_
  refine th_r ?_
  refine wp_region_lit ?_
  refine sv1 (.int .i64 3) (ex_move _) ?_
  refine sv1 (.int .i64 2) (ex_isub rfl rfl 2 rfl) ?_
  refine sv1 (.int .i64 2) (ex_assign _) ?_
  refine wpList_nil ?_
  refine th_r ?_
  rw [rounds_succ]
  refine wp_seq ?_
  refine wp_seq (region_0 [4, 5] [.int .i64 2, .bool true] ?_ ?_)
  · refine stpx (fun _ _ => ex_move _) ?_
    refine stpx (fun _ _ => ex_igeq rfl rfl true rfl) ?_
    exact GSteps.nil
  intro w13 hb13
  refine th_r ?_
  have A14 := A11.keep hb13.out
  have HB15 := below_then HB12 hb13.out
  refine wp_cond_true rfl ?_
  refine wp_skip ?_
  refine th_r ?_
  refine wp_seq ?_
  refine wp_block ?_
  refine wp_seq (region_0 [8, 9, 10, 11] [.int .i64 2, .pointer (some ⟨(γ1 0), 2, none⟩), .int .u64 ((lb k 2 : Nat) : Int), .bool false] ?_ ?_)
  · refine stpx (fun _ _ => ex_move _) ?_
    refine stpx (fun _ _ => ex_indexFr 2 rfl rfl (by decide)) ?_
    refine stpv (fun γ w h => ex_loadlimb (v := k) (o := 2) (K := 4) (A14.keep h.out) (by decide) rfl sgU64) ?_
    refine stpx (fun _ _ => ex_neqi rfl rfl false (by simp [h2])) ?_
    exact GSteps.nil
  intro w16 hb16
  refine th_r ?_
  have A17 := A14.keep hb16.out
  have HB18 := below_then HB15 hb16.out
  refine wp_cond_false rfl ?_
  refine wp_skip ?_
  refine bk_n ?_
  refine th_r ?_
  refine wp_region_lit ?_
  refine sv1 (.int .i64 2) (ex_move _) ?_
  refine sv1 (.int .i64 1) (ex_isub rfl rfl 1 rfl) ?_
  refine sv1 (.int .i64 1) (ex_assign _) ?_
  refine wpList_nil ?_
  refine th_r ?_
  rw [rounds_succ]
  refine wp_seq ?_
  refine wp_seq (region_0 [4, 5] [.int .i64 1, .bool true] ?_ ?_)
  · refine stpx (fun _ _ => ex_move _) ?_
    refine stpx (fun _ _ => ex_igeq rfl rfl true rfl) ?_
    exact GSteps.nil
  intro w19 hb19
  refine th_r ?_
  have A20 := A17.keep hb19.out
  have HB21 := below_then HB18 hb19.out
  refine wp_cond_true rfl ?_
  refine wp_skip ?_
  refine th_r ?_
  refine wp_seq ?_
  refine wp_block ?_
  refine wp_seq (region_0 [8, 9, 10, 11] [.int .i64 1, .pointer (some ⟨(γ1 0), 1, none⟩), .int .u64 ((lb k 1 : Nat) : Int), .bool true] ?_ ?_)
  · refine stpx (fun _ _ => ex_move _) ?_
    refine stpx (fun _ _ => ex_indexFr 1 rfl rfl (by decide)) ?_
    refine stpv (fun γ w h => ex_loadlimb (v := k) (o := 1) (K := 4) (A20.keep h.out) (by decide) rfl sgU64) ?_
    refine stpx (fun _ _ => ex_neqi rfl rfl true (by simp [h1])) ?_
    exact GSteps.nil
  intro w22 hb22
  refine th_r ?_
  have A23 := A20.keep hb22.out
  have HB24 := below_then HB21 hb22.out
  refine wp_cond_true rfl ?_
  refine wp_seq (region_0 [12, 13, 14, 15, 16, 17, 18, 2] [.int .i64 1, .int .i64 64, .int .i64 1, .pointer (some ⟨(γ1 0), 1, none⟩), .int .u64 ((lb k 1 : Nat) : Int), .int .i64 ((nbits (lb k 1) : Nat) : Int), .int .i64 ((64 + nbits (lb k 1) : Nat) : Int), .int .i64 ((64 + nbits (lb k 1) : Nat) : Int)] ?_ ?_)
  · refine stpx (fun _ _ => ex_move _) ?_
    refine stpx (fun _ _ => ex_imul rfl rfl 64 rfl) ?_
    refine stpx (fun _ _ => ex_move _) ?_
    refine stpx (fun _ _ => ex_indexFr 1 rfl rfl (by decide)) ?_
    refine stpv (fun γ w h => ex_loadlimb (v := k) (o := 1) (K := 4) (A23.keep h.out) (by decide) rfl sgU64) ?_
    refine stpc (.int .i64 ((nbits (lb k 1) : Nat) : Int)) (fun γ w => ex_call (vs := [.int .u64 ((lb k 1 : Nat) : Int)]) rfl Try.call69 rfl) (fun w h => len64_is _ _ (lb_lt k 1)) ?_
    refine stpx (fun _ _ => ex_iadd rfl rfl ((64 + nbits (lb k 1) : Nat) : Int) (by have := lb_nbits k 1; rw [wrapI64 (by omega) (by omega)]; omega)) ?_
    refine stpx (fun _ _ => ex_assign _) ?_
    exact GSteps.nil
  intro w25 hb25
  refine th_r ?_
  have A26 := A23.keep hb25.out
  have HB27 := below_then HB24 hb25.out
  exact wp_ret (bk_r (th_ret (th_ret (bk_r (th_ret (bodyPost_ret (ret1 Try.results80 (res_tmp rfl)) rfl ⟨rfl, HB27⟩))))))
set_option maxRecDepth 20000 in
set_option maxHeartbeats 4000000 in
theorem sumlength_0 (k : Nat) (h3 : lb k 3 = 0) (h2 : lb k 2 = 0) (h1 : lb k 1 = 0) (h0 : lb k 0 ≠ 0) (w : World) :
    Calls Try.prog 80 #[nv 4 [k]] w (Is (.int .i64 ((0 + nbits (lb k 0) : Nat) : Int)) w) := by
  go_enter Try.func80, Try.ntmps80
  refine wp_seq (region_c 1 (fun _ => 38) (fun _ => 0) (fun _ => 0) (fun _ => segs [.n 4 k]) (fun _ => segs [.n 4 k]) [1, 2] (fun γ => [.pointer (some ⟨γ 0, 0, none⟩), .int .i64 0]) ?_ ?_)
  · refine GSteps.cons (gm_box 0 rfl (fun _ => rfl) (fun _ _ => rfl) (fun γ w h => ex_boxsn (K := 4) (l := [k]) rfl) rfl rfl rfl) ?_
    refine stpx (fun _ _ => ex_assign _) ?_
    exact GSteps.nil
  intro γ1 w1 hb1 hB1 _
  refine th_r ?_
  have A2 : SB 38 w1 (γ1 0) [.n 4 k] := (hB1 0 (by decide)).2
  have le2 := (hB1 0 (by decide)).1
  have HB3 := below_then (Below.refl w.heap.size w) hb1.out
  refine wp_seq ?_
  refine wp_seq (region_0 [3] [.int .i64 3] ?_ ?_)
  · refine stpx (fun _ _ => ex_assign _) ?_
    exact GSteps.nil
  intro w4 hb4
  refine th_r ?_
  have A5 := A2.keep hb4.out
  have HB6 := below_then HB3 hb4.out
  refine wp_block ?_
  refine wp_loop_rounds 6 ?_
  rw [rounds_succ]
  refine wp_seq ?_
  refine wp_seq (region_0 [4, 5] [.int .i64 3, .bool true] ?_ ?_)
  · refine stpx (fun _ _ => ex_move _) ?_
    refine stpx (fun _ _ => ex_igeq rfl rfl true rfl) ?_
    exact GSteps.nil
  intro w7 hb7
  refine th_r ?_
  have A8 := A5.keep hb7.out
  have HB9 := below_then HB6 hb7.out
  refine wp_cond_true rfl ?_
  refine wp_skip ?_
  refine th_r ?_
  refine wp_seq ?_
  refine wp_block ?_
  refine wp_seq (region_0 [8, 9, 10, 11] [.int .i64 3, .pointer (some ⟨(γ1 0), 3, none⟩), .int .u64 ((lb k 3 : Nat) : Int), .bool false] ?_ ?_)
  · refine stpx (fun _ _ => ex_move _) ?_
    refine stpx (fun _ _ => ex_indexFr 3 rfl rfl (by decide)) ?_
    refine stpv (fun γ w h => ex_loadlimb (v := k) (o := 3) (K := 4) (A8.keep h.out) (by decide) rfl sgU64) ?_
    refine stpx (fun _ _ => ex_neqi rfl rfl false (by simp [h3])) ?_
    exact GSteps.nil
  intro w10 hb10
  refine th_r ?_
  have A11 := A8.keep hb10.out
  have HB12 := below_then HB9 hb10.out
  refine wp_cond_false rfl ?_
  refine wp_skip ?_
  refine bk_n ?_
  refine th_r ?_
  refine wp_region_lit ?_
  refine sv1 (.int .i64 3) (ex_move _) ?_
  refine sv1 (.int .i64 2) (ex_isub rfl rfl 2 rfl) ?_
  refine sv1 (.int .i64 2) (ex_assign _) ?_
  refine wpList_nil ?_
  refine th_r ?_
  rw [rounds_succ]
  refine wp_seq ?_
  refine wp_seq (region_0 [4, 5] [.int .i64 2, .bool true] ?_ ?_)
  · refine stpx (fun _ _ => ex_move _) ?_
    refine stpx (fun _ _ => ex_igeq rfl rfl true rfl) ?_
    exact GSteps.nil
  intro w13 hb13
  refine th_r ?_
  have A14 := A11.keep hb13.out
  have HB15 := below_then HB12 hb13.out
  refine wp_cond_true rfl ?_
  refine wp_skip ?_
  refine th_r ?_
  refine wp_seq ?_
  refine wp_block ?_
  refine wp_seq (region_0 [8, 9, 10, 11] [.int .i64 2, .pointer (some ⟨(γ1 0), 2, none⟩), .int .u64 ((lb k 2 : Nat) : Int), .bool false] ?_ ?_)
  · refine stpx (fun _ _ => ex_move _) ?_
    refine stpx (fun _ _ => ex_indexFr 2 rfl rfl (by decide)) ?_
    refine stpv (fun γ w h => ex_loadlimb (v := k) (o := 2) (K := 4) (A14.keep h.out) (by decide) rfl sgU64) ?_
    refine stpx (fun _ _ => ex_neqi rfl rfl false (by simp [h2])) ?_
    exact GSteps.nil
  intro w16 hb16
  refine th_r ?_
  have A17 := A14.keep hb16.out
  have HB18 := below_then HB15 hb16.out
  refine wp_cond_false rfl ?_
  refine wp_skip ?_
  refine bk_n ?_
  refine th_r ?_
  refine wp_region_lit ?_
  refine sv1 (.int .i64 2) (ex_move _) ?_
  refine sv1 (.int .i64 1) (ex_isub rfl rfl 1 rfl) ?_
  refine sv1 (.int .i64 1) (ex_assign _) ?_
  refine wpList_nil ?_
  refine th_r ?_
  rw [rounds_succ]
  refine wp_seq ?_
  refine wp_seq (region_0 [4, 5] [.int .i64 1, .bool true] ?_ ?_)
  · refine stpx (fun _ _ => ex_move _) ?_
    refine stpx (fun _ _ => ex_igeq rfl rfl true rfl) ?_
    exact GSteps.nil
  intro w19 hb19
  refine th_r ?_
  have A20 := A17.keep hb19.out
  have HB21 := below_then HB18 hb19.out
  refine wp_cond_true rfl ?_
  refine wp_skip ?_
  refine th_r ?_
  refine wp_seq ?_
  refine wp_block ?_
  refine wp_seq (region_0 [8, 9, 10, 11] [.int .i64 1, .pointer (some ⟨(γ1 0), 1, none⟩), .int .u64 ((lb k 1 : Nat) : Int), .bool false] ?_ ?_)
  · refine stpx (fun _ _ => ex_move _) ?_
    refine stpx (fun _ _ => ex_indexFr 1 rfl rfl (by decide)) ?_
    refine stpv (fun γ w h => ex_loadlimb (v := k) (o := 1) (K := 4) (A20.keep h.out) (by decide) rfl sgU64) ?_
    refine stpx (fun _ _ => ex_neqi rfl rfl false (by simp [h1])) ?_
    exact GSteps.nil
  intro w22 hb22
  refine th_r ?_
  have A23 := A20.keep hb22.out
  have HB24 := below_then HB21 hb22.out
  refine wp_cond_false rfl ?_
  refine wp_skip ?_
  refine bk_n ?_
  refine th_r ?_
  refine wp_region_lit ?_
  refine sv1 (.int .i64 1) (ex_move _) ?_
  refine sv1 (.int .i64 0) (ex_isub rfl rfl 0 rfl) ?_
  refine sv1 (.int .i64 0) (ex_assign _) ?_
  refine wpList_nil ?_
  refine th_r ?_
  rw [rounds_succ]
  refine wp_seq ?_
  refine wp_seq (region_0 [4, 5] [.int .i64 0, .bool true] ?_ ?_)
  · refine stpx (fun _ _ => ex_move _) ?_
    refine stpx (fun _ _ => ex_igeq rfl rfl true rfl) ?_
    exact GSteps.nil
  intro w25 hb25
  refine th_r ?_
  have A26 := A23.keep hb25.out
  have HB27 := below_then HB24 hb25.out
  refine wp_cond_true rfl ?_
  refine wp_skip ?_
  refine th_r ?_
  refine wp_seq ?_
  refine wp_block ?_
  refine wp_seq (region_0 [8, 9, 10, 11] [.int .i64 0, .pointer (some ⟨(γ1 0), 0, none⟩), .int .u64 ((lb k 0 : Nat) : Int), .bool true] ?_ ?_)
  · refine stpx (fun _ _ => ex_move _) ?_
    refine stpx (fun _ _ => ex_indexFr 0 rfl rfl (by decide)) ?_
    refine stpv (fun γ w h => ex_loadlimb (v := k) (o := 0) (K := 4) (A26.keep h.out) (by decide) rfl sgU64) ?_
    refine stpx (fun _ _ => ex_neqi rfl rfl true (by simp [h0])) ?_
    exact GSteps.nil
  intro w28 hb28
  refine th_r ?_
  have A29 := A26.keep hb28.out
  have HB30 := below_then HB27 hb28.out
  refine wp_cond_true rfl ?_
  refine wp_seq (region_0 [12, 13, 14, 15, 16, 17, 18, 2] [.int .i64 0, .int .i64 0, .int .i64 0, .pointer (some ⟨(γ1 0), 0, none⟩), .int .u64 ((lb k 0 : Nat) : Int), .int .i64 ((nbits (lb k 0) : Nat) : Int), .int .i64 ((0 + nbits (lb k 0) : Nat) : Int), .int .i64 ((0 + nbits (lb k 0) : Nat) : Int)] ?_ ?_)
  · refine stpx (fun _ _ => ex_move _) ?_
    refine stpx (fun _ _ => ex_imul rfl rfl 0 rfl) ?_
    refine stpx (fun _ _ => ex_move _) ?_
    refine stpx (fun _ _ => ex_indexFr 0 rfl rfl (by decide)) ?_
    refine stpv (fun γ w h => ex_loadlimb (v := k) (o := 0) (K := 4) (A29.keep h.out) (by decide) rfl sgU64) ?_
    refine stpc (.int .i64 ((nbits (lb k 0) : Nat) : Int)) (fun γ w => ex_call (vs := [.int .u64 ((lb k 0 : Nat) : Int)]) rfl Try.call69 rfl) (fun w h => len64_is _ _ (lb_lt k 0)) ?_
    refine stpx (fun _ _ => ex_iadd rfl rfl ((0 + nbits (lb k 0) : Nat) : Int) (by have := lb_nbits k 0; rw [wrapI64 (by omega) (by omega)]; omega)) ?_
    refine stpx (fun _ _ => ex_assign _) ?_
    exact GSteps.nil
  intro w31 hb31
  refine th_r ?_
  have A32 := A29.keep hb31.out
  have HB33 := below_then HB30 hb31.out
  exact wp_ret (bk_r (th_ret (th_ret (bk_r (th_ret (bodyPost_ret (ret1 Try.results80 (res_tmp rfl)) rfl ⟨rfl, HB33⟩))))))
set_option maxRecDepth 20000 in
set_option maxHeartbeats 4000000 in
theorem sumlength_no (k : Nat) (h3 : lb k 3 = 0) (h2 : lb k 2 = 0) (h1 : lb k 1 = 0) (h0 : lb k 0 = 0) (w : World) :
    Calls Try.prog 80 #[nv 4 [k]] w (Is (.int .i64 0) w) := by
  go_enter Try.func80, Try.ntmps80
  refine wp_seq (region_c 1 (fun _ => 38) (fun _ => 0) (fun _ => 0) (fun _ => segs [.n 4 k]) (fun _ => segs [.n 4 k]) [1, 2] (fun γ => [.pointer (some ⟨γ 0, 0, none⟩), .int .i64 0]) ?_ ?_)
  · refine GSteps.cons (gm_box 0 rfl (fun _ => rfl) (fun _ _ => rfl) (fun γ w h => ex_boxsn (K := 4) (l := [k]) rfl) rfl rfl rfl) ?_
    refine stpx (fun _ _ => ex_assign _) ?_
    exact GSteps.nil
  intro γ1 w1 hb1 hB1 _
  refine th_r ?_
  have A2 : SB 38 w1 (γ1 0) [.n 4 k] := (hB1 0 (by decide)).2
  have le2 := (hB1 0 (by decide)).1
  have HB3 := below_then (Below.refl w.heap.size w) hb1.out
  refine wp_seq ?_
  refine wp_seq (region_0 [3] [.int .i64 3] ?_ ?_)
  · refine stpx (fun _ _ => ex_assign _) ?_
    exact GSteps.nil
  intro w4 hb4
  refine th_r ?_
  have A5 := A2.keep hb4.out
  have HB6 := below_then HB3 hb4.out
  refine wp_block ?_
  refine wp_loop_rounds 6 ?_
  rw [rounds_succ]
  refine wp_seq ?_
  refine wp_seq (region_0 [4, 5] [.int .i64 3, .bool true] ?_ ?_)
  · refine stpx (fun _ _ => ex_move _) ?_
    refine stpx (fun _ _ => ex_igeq rfl rfl true rfl) ?_
    exact GSteps.nil
  intro w7 hb7
  refine th_r ?_
  have A8 := A5.keep hb7.out
  have HB9 := below_then HB6 hb7.out
  refine wp_cond_true rfl ?_
  refine wp_skip ?_
  refine th_r ?_
  refine wp_seq ?_
  refine wp_block ?_
  refine wp_seq (region_0 [8, 9, 10, 11] [.int .i64 3, .pointer (some ⟨(γ1 0), 3, none⟩), .int .u64 ((lb k 3 : Nat) : Int), .bool false] ?_ ?_)
  · refine stpx (fun _ _ => ex_move _) ?_
    refine stpx (fun _ _ => ex_indexFr 3 rfl rfl (by decide)) ?_
    refine stpv (fun γ w h => ex_loadlimb (v := k) (o := 3) (K := 4) (A8.keep h.out) (by decide) rfl sgU64) ?_
    refine stpx (fun _ _ => ex_neqi rfl rfl false (by simp [h3])) ?_
    exact GSteps.nil
  intro w10 hb10
  refine th_r ?_
  have A11 := A8.keep hb10.out
  have HB12 := below_then HB9 hb10.out
  refine wp_cond_false rfl ?_
  refine wp_skip ?_
  refine bk_n ?_
  refine th_r ?_
  refine wp_region_lit ?_
  refine sv1 (.int .i64 3) (ex_move _) ?_
  refine sv1 (.int .i64 2) (ex_isub rfl rfl 2 rfl) ?_
  refine sv1 (.int .i64 2) (ex_assign _) ?_
  refine wpList_nil ?_
  refine th_r ?_
  rw [rounds_succ]
  refine wp_seq ?_
  refine wp_seq (region_0 [4, 5] [.int .i64 2, .bool true] ?_ ?_)
  · refine stpx (fun _ _ => ex_move _) ?_
    refine stpx (fun _ _ => ex_igeq rfl rfl true rfl) ?_
    exact GSteps.nil
  intro w13 hb13
  refine th_r ?_
  have A14 := A11.keep hb13.out
  have HB15 := below_then HB12 hb13.out
  refine wp_cond_true rfl ?_
  refine wp_skip ?_
  refine th_r ?_
  refine wp_seq ?_
  refine wp_block ?_
  refine wp_seq (region_0 [8, 9, 10, 11] [.int .i64 2, .pointer (some ⟨(γ1 0), 2, none⟩), .int .u64 ((lb k 2 : Nat) : Int), .bool false] ?_ ?_)
  · refine stpx (fun _ _ => ex_move _) ?_
    refine stpx (fun _ _ => ex_indexFr 2 rfl rfl (by decide)) ?_
    refine stpv (fun γ w h => ex_loadlimb (v := k) (o := 2) (K := 4) (A14.keep h.out) (by decide) rfl sgU64) ?_
    refine stpx (fun _ _ => ex_neqi rfl rfl false (by simp [h2])) ?_
    exact GSteps.nil
  intro w16 hb16
  refine th_r ?_
  have A17 := A14.keep hb16.out
  have HB18 := below_then HB15 hb16.out
  refine wp_cond_false rfl ?_
  refine wp_skip ?_
  refine bk_n ?_
  refine th_r ?_
  refine wp_region_lit ?_
  refine sv1 (.int .i64 2) (ex_move _) ?_
  refine sv1 (.int .i64 1) (ex_isub rfl rfl 1 rfl) ?_
  refine sv1 (.int .i64 1) (ex_assign _) ?_
  refine wpList_nil ?_
  refine th_r ?_
  rw [rounds_succ]
  refine wp_seq ?_
  refine wp_seq (region_0 [4, 5] [.int .i64 1, .bool true] ?_ ?_)
  · refine stpx (fun _ _ => ex_move _) ?_
    refine stpx (fun _ _ => ex_igeq rfl rfl true rfl) ?_
    exact GSteps.nil
  intro w19 hb19
  refine th_r ?_
  have A20 := A17.keep hb19.out
  have HB21 := below_then HB18 hb19.out
  refine wp_cond_true rfl ?_
  refine wp_skip ?_
  refine th_r ?_
  refine wp_seq ?_
  refine wp_block ?_
  refine wp_seq (region_0 [8, 9, 10, 11] [.int .i64 1, .pointer (some ⟨(γ1 0), 1, none⟩), .int .u64 ((lb k 1 : Nat) : Int), .bool false] ?_ ?_)
  · refine stpx (fun _ _ => ex_move _) ?_
    refine stpx (fun _ _ => ex_indexFr 1 rfl rfl (by decide)) ?_
    refine stpv (fun γ w h => ex_loadlimb (v := k) (o := 1) (K := 4) (A20.keep h.out) (by decide) rfl sgU64) ?_
    refine stpx (fun _ _ => ex_neqi rfl rfl false (by simp [h1])) ?_
    exact GSteps.nil
  intro w22 hb22
  refine th_r ?_
  have A23 := A20.keep hb22.out
  have HB24 := below_then HB21 hb22.out
  refine wp_cond_false rfl ?_
  refine wp_skip ?_
  refine bk_n ?_
  refine th_r ?_
  refine wp_region_lit ?_
  refine sv1 (.int .i64 1) (ex_move _) ?_
  refine sv1 (.int .i64 0) (ex_isub rfl rfl 0 rfl) ?_
  refine sv1 (.int .i64 0) (ex_assign _) ?_
  refine wpList_nil ?_
  refine th_r ?_
  rw [rounds_succ]
  refine wp_seq ?_
  refine wp_seq (region_0 [4, 5] [.int .i64 0, .bool true] ?_ ?_)
  · refine stpx (fun _ _ => ex_move _) ?_
    refine stpx (fun _ _ => ex_igeq rfl rfl true rfl) ?_
    exact GSteps.nil
  intro w25 hb25
  refine th_r ?_
  have A26 := A23.keep hb25.out
  have HB27 := below_then HB24 hb25.out
  refine wp_cond_true rfl ?_
  refine wp_skip ?_
  refine th_r ?_
  refine wp_seq ?_
  refine wp_block ?_
  refine wp_seq (region_0 [8, 9, 10, 11] [.int .i64 0, .pointer (some ⟨(γ1 0), 0, none⟩), .int .u64 ((lb k 0 : Nat) : Int), .bool false] ?_ ?_)
  · refine stpx (fun _ _ => ex_move _) ?_
    refine stpx (fun _ _ => ex_indexFr 0 rfl rfl (by decide)) ?_
    refine stpv (fun γ w h => ex_loadlimb (v := k) (o := 0) (K := 4) (A26.keep h.out) (by decide) rfl sgU64) ?_
    refine stpx (fun _ _ => ex_neqi rfl rfl false (by simp [h0])) ?_
    exact GSteps.nil
  intro w28 hb28
  refine th_r ?_
  have A29 := A26.keep hb28.out
  have HB30 := below_then HB27 hb28.out
  refine wp_cond_false rfl ?_
  refine wp_skip ?_
  refine bk_n ?_
  refine th_r ?_
  refine wp_region_lit ?_
  refine sv1 (.int .i64 0) (ex_move _) ?_
  refine sv1 (.int .i64 (-1)) (ex_isub rfl rfl (-1) rfl) ?_
  refine sv1 (.int .i64 (-1)) (ex_assign _) ?_
  refine wpList_nil ?_
  refine th_r ?_
  rw [rounds_succ]
  refine wp_seq ?_
  refine wp_seq (region_0 [4, 5] [.int .i64 (-1), .bool false] ?_ ?_)
  · refine stpx (fun _ _ => ex_move _) ?_
    refine stpx (fun _ _ => ex_igeq rfl rfl false rfl) ?_
    exact GSteps.nil
  intro w31 hb31
  refine th_r ?_
  have A32 := A29.keep hb31.out
  have HB33 := below_then HB30 hb31.out
  refine wp_cond_false rfl ?_
  refine wp_exit (th_e (th_e (bk_e ?_)))
  refine th_r ?_
  refine wp_seq (region_0 [2] [.int .i64 0] ?_ ?_)
  · refine stpx (fun _ _ => ex_assign _) ?_
    exact GSteps.nil
  intro w34 hb34
  refine th_r ?_
  have A35 := A32.keep hb34.out
  have HB36 := below_then HB33 hb34.out
  exact wp_ret (bodyPost_ret (ret1 Try.results80 (res_tmp rfl)) rfl ⟨rfl, HB36⟩)
theorem sumlength_q {k : Nat} (hk : k < frB) : ∃ L : Nat, L ≤ 256 ∧ k < 2 ^ L ∧ ∀ w, Calls Try.prog 80 #[nv 4 [k]] w (Is (.int .i64 ((L : Nat) : Int)) w) := by
  have b3 : k < 2 ^ (64 * (3 + 1)) := Nat.lt_of_lt_of_eq hk frB_eq
  by_cases h3 : lb k 3 = 0
  · have b2 := lb_top_zero b3 h3
    by_cases h2 : lb k 2 = 0
    · have b1 := lb_top_zero b2 h2
      by_cases h1 : lb k 1 = 0
      · have b0 := lb_top_zero b1 h1
        by_cases h0 : lb k 0 = 0
        · have bn := lb_top_zero b0 h0
          exact ⟨0, by decide, bn, fun w => sumlength_no k h3 h2 h1 h0 w⟩
        · have l0 := lb_nbits k 0
          exact ⟨0 + nbits (lb k 0), by omega, lb_top_lt b0, fun w => sumlength_0 k h3 h2 h1 h0 w⟩
      · have l1 := lb_nbits k 1
        exact ⟨64 + nbits (lb k 1), by omega, lb_top_lt b1, fun w => sumlength_1 k h3 h2 h1 w⟩
    · have l2 := lb_nbits k 2
      exact ⟨128 + nbits (lb k 2), by omega, lb_top_lt b2, fun w => sumlength_2 k h3 h2 w⟩
  · have l3 := lb_nbits k 3
    exact ⟨192 + nbits (lb k 3), by omega, lb_top_lt b3, fun w => sumlength_3 k h3 w⟩
def dwid (m : Nat) : Nat := max 1 (3 * nbits m / 4)
theorem nbits_4096 {m : Nat} (h : m ≤ 4096) : nbits m ≤ 13 := by
  unfold nbits
  split
  · omega
  · next h0 =>
    have := (Nat.log2_lt h0 (k := 13)).2 (by omega)
    omega
theorem dwid_le {m : Nat} (h : m ≤ 4096) : 1 ≤ dwid m ∧ dwid m ≤ 9 := by
  have := nbits_4096 h
  unfold dwid
  omega
set_option maxRecDepth 20000 in
set_option maxHeartbeats 4000000 in
theorem bitslen_v (m : Nat) (hm : m < 1000000) (w : World) :
    Calls Try.prog 79 #[.int .u64 ((m : Nat) : Int)] w (Is (.int .i64 ((nbits m : Nat) : Int)) w) := by
  go_enter Try.func79, Try.ntmps79
  refine wp_seq (region_0 [2] [.int .i64 0] ?_ ?_)
  · refine stpx (fun _ _ => ex_assign _) ?_
    exact GSteps.nil
  intro w1 hb1
  refine th_r ?_
  have HB2 := below_then (Below.refl w.heap.size w) hb1.out
  refine wp_seq ?_
  refine wp_cond_false rfl ?_
  refine wp_skip ?_
  refine th_r ?_
  refine wp_seq (region_0 [6, 7, 2] [.int .u64 ((m : Nat) : Int), .int .i64 ((nbits m : Nat) : Int), .int .i64 ((nbits m : Nat) : Int)] ?_ ?_)
  · refine stpx (fun _ _ => ex_move _) ?_
    refine stpc (.int .i64 ((nbits m : Nat) : Int)) (fun γ w => ex_call (vs := [.int .u64 ((m : Nat) : Int)]) rfl Try.call69 rfl) (fun w h => len64_is m _ (by omega)) ?_
    refine stpx (fun _ _ => ex_assign _) ?_
    exact GSteps.nil
  intro w3 hb3
  refine th_r ?_
  have HB4 := below_then HB2 hb3.out
  exact wp_ret (bodyPost_ret (ret1 Try.results79 (res_tmp rfl)) rfl ⟨rfl, HB4⟩)
set_option maxRecDepth 20000 in
set_option maxHeartbeats 4000000 in
theorem sumwidth_v (m : Nat) (hm : m ≤ 4096) (w : World) :
    Calls Try.prog 58 #[.int .i64 ((m : Nat) : Int)] w (Is (.int .i64 ((dwid m : Nat) : Int)) w) := by
  have hb := nbits_4096 hm
  have dw_max : ((dwid m : Nat) : Int) = max 1 ((3 * nbits m / 4 : Nat) : Int) := by unfold dwid; omega
  go_enter Try.func58, Try.ntmps58
  refine wp_seq (region_0 [2] [.int .i64 0] ?_ ?_)
  · refine stpx (fun _ _ => ex_assign _) ?_
    exact GSteps.nil
  intro w1 hb1
  refine th_r ?_
  have HB2 := below_then (Below.refl w.heap.size w) hb1.out
  refine wp_seq (region_0 [3, 4, 5, 6, 7, 8, 2] [.int .i64 ((m : Nat) : Int), .int .u64 ((m : Nat) : Int), .int .i64 ((nbits m : Nat) : Int), .int .i64 ((3 * nbits m : Nat) : Int), .int .i64 ((3 * nbits m / 4 : Nat) : Int), .int .i64 ((dwid m : Nat) : Int), .int .i64 ((dwid m : Nat) : Int)] ?_ ?_)
  · refine stpx (fun _ _ => ex_move _) ?_
    refine stpx (fun _ _ => ex_cvW rfl (by omega)) ?_
    refine stpc (.int .i64 ((nbits m : Nat) : Int)) (fun γ w => ex_call (vs := [.int .u64 ((m : Nat) : Int)]) rfl Try.call79 rfl) (fun w h => bitslen_v m (by omega) _) ?_
    refine stpx (fun _ _ => ex_imul rfl rfl ((3 * nbits m : Nat) : Int) (by rw [wrapI64 (by omega) (by omega)]; omega)) ?_
    refine stpx (fun _ _ => ex_iquo (a := 3 * nbits m) (b := 4) rfl rfl (by decide) (by omega)) ?_
    refine stpx (fun _ _ => ex_imaxr rfl rfl _ dw_max) ?_
    refine stpx (fun _ _ => ex_assign _) ?_
    exact GSteps.nil
  intro w3 hb3
  refine th_r ?_
  have HB4 := below_then HB2 hb3.out
  exact wp_ret (bodyPost_ret (ret1 Try.results58 (res_tmp rfl)) rfl ⟨rfl, HB4⟩)
def mxL (L : Nat → Nat) : Nat → Nat
  | 0 => 0
  | k + 1 => max (mxL L k) (L k)
theorem mxL_le {L : Nat → Nat} {m : Nat} (h : ∀ i, i < m → L i ≤ 256) : ∀ k, k ≤ m → mxL L k ≤ 256
  | 0, _ => Nat.zero_le _
  | k + 1, hk => by
    have h1 := mxL_le h k (by omega)
    have h2 := h k (by omega)
    show max _ _ ≤ 256
    omega
theorem le_mxL {L : Nat → Nat} : ∀ {k i : Nat}, i < k → L i ≤ mxL L k
  | k + 1, i, h => by
    show L i ≤ max _ _
    by_cases c : i = k
    · rw [c]; omega
    · have := le_mxL (L := L) (k := k) (i := i) (by omega)
      omega
set_option maxRecDepth 20000 in
set_option maxHeartbeats 4000000 in
theorem sumplaces_m (m : Nat) (hm : m ≤ 4096) (A L : Nat → Nat) (ak : Option Addr) (ck wd : Nat) (h1 : 1 ≤ wd) (h9 : wd ≤ 9) (hL : ∀ i, i < m → L i ≤ 256 ∧ A i < 2 ^ L i ∧ ∀ w, Calls Try.prog 80 #[nv 4 [(A i)]] w (Is (.int .i64 ((L i : Nat) : Int)) w)) (w : World) (HK : Row w ak 4 m (fun i => [.n 4 (A i)])) :
    Calls Try.prog 60 #[.slice ak m ck, .int .i64 ((wd : Nat) : Int)] w (Is (.int .i64 (((mxL L m + wd - 1) / wd : Nat) : Int)) w) := by
  have hM := mxL_le (fun i hi => (hL i hi).1) m (Nat.le_refl m)
  go_enter Try.func60, Try.ntmps60
  refine wp_seq (region_0 [4] [.int .i64 0] ?_ ?_)
  · refine stpx (fun _ _ => ex_assign _) ?_
    exact GSteps.nil
  intro w1 hb1
  refine th_r ?_
  have HB2 := below_then (Below.refl w.heap.size w) hb1.out
  refine wp_seq (region_0 [5] [.int .i64 0] ?_ ?_)
  · refine stpx (fun _ _ => ex_assign _) ?_
    exact GSteps.nil
  intro w3 hb3
  refine th_r ?_
  have HB4 := below_then HB2 hb3.out
  refine wp_seq ?_
  refine wp_seq (region_0 [8, 9, 10] [.slice ak m ck, .int .i64 ((m : Nat) : Int), .int .i64 0] ?_ ?_)
  · refine stpx (fun _ _ => ex_move _) ?_
    refine stpx (fun _ _ => ex_lenR slR1 (m := m) rfl) ?_
    refine stpx (fun _ _ => ex_move _) ?_
    exact GSteps.nil
  intro w5 hb5
  refine th_r ?_
  have HB6 := below_then HB4 hb5.out
  refine wp_block ?_
  refine wp_loop_by (m) (fun q_ a_ v_ => ∃ j7 j11 j12 j13 j14 j15 j16 j17 j18 : Value, a_ = ⟨#[.slice ak m ck, .int .i64 ((wd : Nat) : Int), undef, undef, .int .i64 0, .int .i64 ((mxL L q_ : Nat) : Int), undef, j7, .slice ak m ck, .int .i64 ((m : Nat) : Int), .int .i64 ((q_ : Nat) : Int), j11, j12, j13, j14, j15, j16, j17, j18, undef, undef, undef, undef, undef, undef], []⟩ ∧ Below w.heap.size w v_) ⟨_, _, _, _, _, _, _, _, _, rfl, HB6⟩ ?_ ?_
  · intro k7 hk7
    rintro _ w7 ⟨i7_7, i7_11, i7_12, i7_13, i7_14, i7_15, i7_16, i7_17, i7_18, rfl, HB7⟩ K7 hK7
    have hq := hk7
    have hmx : ((mxL L (k7 + 1) : Nat) : Int) = max ((mxL L k7 : Nat) : Int) ((L k7 : Nat) : Int) := by rw [mxL]; omega
    refine wp_seq (region_0 [11] [.bool true] ?_ ?_)
    · refine stpx (fun _ _ => ex_ilss rfl rfl true (by rw [eq_comm, decide_eq_true_eq]; omega)) ?_
      exact GSteps.nil
    intro w8 hb8
    refine th_r ?_
    have HB9 := below_then HB7 hb8.out
    refine wp_seq ?_
    refine wp_cond_true rfl ?_
    refine wp_skip ?_
    refine th_r ?_
    refine wp_seq ?_
    refine wp_block ?_
    obtain ⟨g10, o10, ha10, lg10, hr10⟩ := (HK.keep HB9) k7 hq
    skip
    · refine wp_seq (region_c 1 (fun _ => 38) (fun _ => 2) (fun _ => 3) (fun _ => segs [.n 4 0]) (fun _ => segs [.n 4 ((A k7))]) [12, 13, 7] (fun γ => [.pointer (some ⟨g10, o10 + 4 * k7, none⟩), nv 4 [(A k7)], .pointer (some ⟨γ 0, 0, none⟩)]) ?_ ?_)
      · refine stpx (fun _ _ => ex_idxR slR1 (a := ak) (m := m) (c := ck) (i := k7) rfl ha10 rfl hq) ?_
        refine stpv (fun γ w h => ex_loadRn (K := 4) (v := (A k7)) flFr rfl (range_keep lg10 h.out hr10)) ?_
        refine GSteps.cons (gm_new 0 rfl (fun _ => rfl) (fun _ _ => rfl) (fun γ w => ex_allocsn (K := 4) (l := [0]) zFr) rfl (by kernel_rfl)) ?_
        refine GSteps.cons (gm_store 0 rfl rfl (fun _ => rfl) (len_segs (l := [.n 4 ((A k7))]) (l' := [.n 4 0]) rfl) (fun γ w h => ex_stores 0 1 (l := [.n 4 0]) (m := [.n 4 ((A k7))]) flFr.2 rfl rfl rfl (nv_cells 4 [(A k7)]) h rfl rfl) rfl rfl (by kernel_rfl)) ?_
        exact GSteps.nil
      intro γ11 w11 hb11 hB11 _
      refine th_r ?_
      have A12 : SB 38 w11 (γ11 0) [.n 4 ((A k7))] := (hB11 0 (by decide)).2
      have le12 := (hB11 0 (by decide)).1
      have HB13 := below_then HB9 hb11.out
      refine wp_region_lit ?_
      refine sv1 (.int .i64 ((mxL L k7 : Nat) : Int)) (ex_move _) ?_
      refine sv1 (nv 4 [(A k7)]) (ex_loadsn (K := 4) 0 1 (m := [(A k7)]) flFr rfl rfl A12 rfl rfl) ?_
      refine sc1 (.int .i64 ((L k7 : Nat) : Int)) (ex_call (vs := [nv 4 [(A k7)]]) rfl Try.call80 rfl) ((hL k7 hk7).2.2 _) ?_
      intro w16 hb16
      have A17 := A12.keep hb16
      have HB18 := below_then HB13 hb16
      refine sv1 (.int .i64 ((mxL L (k7 + 1) : Nat) : Int)) (ex_imaxr rfl rfl _ hmx) ?_
      refine sv1 (.int .i64 ((mxL L (k7 + 1) : Nat) : Int)) (ex_assign _) ?_
      refine wpList_nil ?_
      refine bk_n ?_
      refine th_r ?_
      refine wp_region_lit ?_
      refine sv1 (.int .i64 ((k7 + 1 : Nat) : Int)) (ex_iadd rfl rfl ((k7 + 1 : Nat) : Int) (cnt_up (by omega))) ?_
      refine sv1 (.int .i64 ((k7 + 1 : Nat) : Int)) (ex_move _) ?_
      refine wpList_nil ?_
      refine th_r ?_
      exact hK7.out _ _ ⟨_, _, _, _, _, _, _, _, _, rfl, HB18⟩
  · rintro _ w21 ⟨i21_7, i21_11, i21_12, i21_13, i21_14, i21_15, i21_16, i21_17, i21_18, rfl, HB21⟩ K21
    refine wp_seq (region_0 [11] [.bool false] ?_ ?_)
    · refine stpx (fun _ _ => ex_ilss rfl rfl false (by rw [eq_comm, decide_eq_false_iff_not]; omega)) ?_
      exact GSteps.nil
    intro w22 hb22
    refine th_r ?_
    have HB23 := below_then HB21 hb22.out
    refine wp_seq ?_
    refine wp_cond_false rfl ?_
    refine wp_exit (th_e (th_e (bk_e ?_)))
    refine th_r ?_
    refine wp_seq (region_0 [19, 20, 21, 22, 23, 24, 4] [.int .i64 ((mxL L m : Nat) : Int), .int .i64 ((wd : Nat) : Int), .int .i64 ((mxL L m + wd : Nat) : Int), .int .i64 ((mxL L m + wd - 1 : Nat) : Int), .int .i64 ((wd : Nat) : Int), .int .i64 (((mxL L m + wd - 1) / wd : Nat) : Int), .int .i64 (((mxL L m + wd - 1) / wd : Nat) : Int)] ?_ ?_)
    · refine stpx (fun _ _ => ex_move _) ?_
      refine stpx (fun _ _ => ex_move _) ?_
      refine stpx (fun _ _ => ex_iadd rfl rfl ((mxL L m + wd : Nat) : Int) (by rw [wrapI64 (by omega) (by omega)]; omega)) ?_
      refine stpx (fun _ _ => ex_isub rfl rfl ((mxL L m + wd - 1 : Nat) : Int) (by rw [wrapI64 (by omega) (by omega)]; omega)) ?_
      refine stpx (fun _ _ => ex_move _) ?_
      refine stpx (fun _ _ => ex_iquo (a := mxL L m + wd - 1) (b := wd) rfl rfl (by omega) (by omega)) ?_
      refine stpx (fun _ _ => ex_assign _) ?_
      exact GSteps.nil
    intro w24 hb24
    refine th_r ?_
    have HB25 := below_then HB23 hb24.out
    exact wp_ret (bodyPost_ret (ret1 Try.results60 (res_tmp rfl)) rfl ⟨rfl, HB25⟩)
theorem sumplaces_q (m : Nat) (hm : m ≤ 4096) (A : Nat → Nat) (wd : Nat) (h1 : 1 ≤ wd) (h9 : wd ≤ 9) (HA : ∀ i, i < m → A i < frB) :
    ∃ p : Nat, p * wd ≤ 264 ∧ (∀ i, i < m → A i < 2 ^ (p * wd)) ∧ ∀ (ak : Option Addr) (ck : Nat) (w : World), Row w ak 4 m (fun i => [.n 4 (A i)]) → Calls Try.prog 60 #[.slice ak m ck, .int .i64 ((wd : Nat) : Int)] w (Is (.int .i64 ((p : Nat) : Int)) w) := by
  have key : ∀ i, ∃ L, i < m → L ≤ 256 ∧ A i < 2 ^ L ∧ ∀ w, Calls Try.prog 80 #[nv 4 [(A i)]] w (Is (.int .i64 ((L : Nat) : Int)) w) := fun i => by
    by_cases h : i < m
    · obtain ⟨L, hL⟩ := sumlength_q (HA i h)
      exact ⟨L, fun _ => hL⟩
    · exact ⟨0, fun c => absurd c h⟩
  obtain ⟨L, hL⟩ := Classical.skolem.1 key
  have hM := mxL_le (fun i hi => (hL i hi).1) m (Nat.le_refl m)
  have hd := Nat.div_mul_le_self (mxL L m + wd - 1) wd
  have hd2 := Nat.div_add_mod (mxL L m + wd - 1) wd
  have hr := Nat.mod_lt (mxL L m + wd - 1) (show wd > 0 by omega)
  refine ⟨(mxL L m + wd - 1) / wd, by omega, fun i hi => ?_, fun ak ck w HK => sumplaces_m m hm A L ak ck wd h1 h9 hL w HK⟩
  refine Nat.lt_of_lt_of_le (hL i hi).2.1 (Nat.pow_le_pow_right (by decide) ?_)
  have := le_mxL (L := L) hi
  rw [Nat.mul_comm] at hd2
  omega
end Go.Proofs.Ytkkmekdhejhapaa

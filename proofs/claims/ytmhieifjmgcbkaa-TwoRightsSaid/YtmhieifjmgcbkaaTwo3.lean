/- What is proved here: how often a point is taken; what is of the group; the reference's sum (chirographref09). -/
import Derived.Test.YtmhieifjmgcbkaaTwo1
namespace Go.Proofs.Ytmhieifjmgcbkaa
open Go.RowKit Cv

set_option maxRecDepth 20000 in
set_option maxHeartbeats 4000000 in
theorem twoorder_v (w : World) :
    Calls Try.prog 20 #[] w (Is (nv 4 [rN]) w) := by
  go_enter Try.func20, Try.ntmps20
  refine wp_seq (region_m (F := fun γ => ⟨#[.pointer (some ⟨γ 0, 0, none⟩), undef], []⟩) 1 (fun _ => 44) (fun _ => 0) (fun _ => 0) (fun _ => segs [.n 4 0]) (fun _ => segs [.n 4 0]) [0] (.inr ⟨rfl, by kernel_rfl⟩) (by kernel_rfl) rfl rfl rfl ?_ ?_)
  · refine GSteps.cons (gm_box 0 rfl (fun _ => rfl) (fun _ _ => rfl) (fun γ w h => ex_allocsn (K := 4) (l := [0]) zFr) rfl rfl rfl) ?_
    exact GSteps.nil
  intro γ1 w1 hb1 hB1 _
  refine th_r ?_
  have A2 : SB 44 w1 (γ1 0) [.n 4 0] := (hB1 0 (by decide)).2
  have le2 := (hB1 0 (by decide)).1
  have HB3 := below_then (Below.refl w.heap.size w) hb1.out
  refine wp_seq (region_ms (F := fun _ => ⟨#[.pointer (some ⟨(γ1 0), 0, none⟩), nv 4 [rN]], []⟩) 1 ((γ1 0)) 0 (segs [.n 4 rN]) 0 (fun _ => 0) (fun _ => 0) (fun _ => 0) (fun _ => []) (fun _ => []) [1] (.inr ⟨rfl, by kernel_rfl⟩) (by kernel_rfl) rfl rfl rfl ?_ ?_)
  · refine GSteps.cons (late_step (gm_val (v := nv 4 [rN]) rfl (fun _ => rfl) (fun _ => rfl) (fun γ w h => ex_four lit_rN (fun _ => rfl)) rfl) (by kernel_rfl) rfl) ?_
    refine GSteps.cons (late_store rfl (fun _ => rfl) (fun γ w h => ex_stores 0 1 (l := [.n 4 0]) (m := [.n 4 rN]) flFr.2 rfl rfl rfl (nv_cells 4 [rN]) (A2.keep h.out) rfl rfl) rfl) ?_
    exact GSteps.nil
  intro _ w4 w4_ hb4 _ _ hs4
  refine th_r ?_
  have A5 := A2.keep hb4.out
  have HB6 := below_then HB3 hb4.out
  have A7 := hs4.here 0 1 (l' := [.n 4 rN]) A5 rfl rfl rfl
  have HB8 := hs4.below HB6 (Nat.le_trans (Nat.le_refl _) le2)
  exact wp_ret (bodyPost_ret (ret1 Try.results20 (res_nv (K := 4) (l := [rN]) rfl A7 flFr rfl)) rfl ⟨rfl, HB8⟩)

theorem ex_indexFr2 {ρ : Operand → Value} {d : Option Tmp} {ty0 : TypeId} {pos : String} {after : Array Edge} {guard : Option (Nat × Bool)} {w : World} {x ix : Operand} {g : Nat} (i : Nat) (hx : ρ x = .pointer (some ⟨g, 0, none⟩)) (hi : ρ ix = .int .i64 (i : Int)) (hlt : i < 4) :
    (execOp ρ ⟨d, .indexAddr 44 x ix, ty0, pos, after, guard⟩).run Try.prog w = .ok (.value (.pointer (some ⟨g, i, none⟩))) w := by
  have e := ex_index (d := d) (ty0 := ty0) (pos := pos) (after := after) (guard := guard) (w := w) i arFr hx hi hlt
  rw [Nat.mul_one, Nat.zero_add] at e
  exact e

set_option maxRecDepth 20000 in
set_option maxHeartbeats 4000000 in
theorem twolength_3 (k : Nat)  (h3 : lb k 3 ≠ 0) (w : World) :
    Calls Try.prog 52 #[nv 4 [k]] w (Is (.int .i64 ((192 + nbits (lb k 3) : Nat) : Int)) w) := by
  go_enter Try.func52, Try.ntmps52
  refine wp_seq (region_m (F := fun γ => ⟨#[nv 4 [k], .pointer (some ⟨γ 0, 0, none⟩), .int .i64 0, undef, undef, undef, undef, undef, undef, undef, undef, undef, undef, undef, undef, undef, undef, undef, undef], []⟩) 1 (fun _ => 44) (fun _ => 0) (fun _ => 0) (fun _ => segs [.n 4 k]) (fun _ => segs [.n 4 k]) [1, 2] (.inr ⟨rfl, by kernel_rfl⟩) (by kernel_rfl) rfl rfl rfl ?_ ?_)
  · refine GSteps.cons (gm_box 0 rfl (fun _ => rfl) (fun _ _ => rfl) (fun γ w h => ex_boxsn (K := 4) (l := [k]) rfl) rfl rfl rfl) ?_
    refine GSteps.cons (gm_val (v := .int .i64 0) rfl (fun _ => rfl) (fun _ => rfl) (fun γ w h => ex_assign _) rfl) ?_
    exact GSteps.nil
  intro γ1 w1 hb1 hB1 _
  refine th_r ?_
  have A2 : SB 44 w1 (γ1 0) [.n 4 k] := (hB1 0 (by decide)).2
  have le2 := (hB1 0 (by decide)).1
  have HB3 := below_then (Below.refl w.heap.size w) hb1.out
  refine wp_seq ?_
  refine wp_seq (region_m (F := fun _ => ⟨#[nv 4 [k], .pointer (some ⟨(γ1 0), 0, none⟩), .int .i64 0, .int .i64 3, undef, undef, undef, undef, undef, undef, undef, undef, undef, undef, undef, undef, undef, undef, undef], []⟩) 0 (fun _ => 0) (fun _ => 0) (fun _ => 0) (fun _ => []) (fun _ => []) [3] (.inr ⟨rfl, by kernel_rfl⟩) (by kernel_rfl) rfl rfl rfl ?_ ?_)
  · refine GSteps.cons (gm_val (v := .int .i64 3) rfl (fun _ => rfl) (fun _ => rfl) (fun γ w h => ex_assign _) rfl) ?_
    exact GSteps.nil
  intro _ w4 hb4 _ _
  refine th_r ?_
  have A5 := A2.keep hb4.out
  have HB6 := below_then HB3 hb4.out
  refine wp_block ?_
  refine wp_loop_rounds 6 ?_
  rw [rounds_succ]
  refine wp_seq ?_
  refine wp_seq (region_m (F := fun _ => ⟨#[nv 4 [k], .pointer (some ⟨(γ1 0), 0, none⟩), .int .i64 0, .int .i64 3, .int .i64 3, .bool true, undef, undef, undef, undef, undef, undef, undef, undef, undef, undef, undef, undef, undef], []⟩) 0 (fun _ => 0) (fun _ => 0) (fun _ => 0) (fun _ => []) (fun _ => []) [4, 5] (.inr ⟨rfl, by kernel_rfl⟩) (by kernel_rfl) rfl rfl rfl ?_ ?_)
  · refine GSteps.cons (gm_val (v := .int .i64 3) rfl (fun _ => rfl) (fun _ => rfl) (fun γ w h => ex_move _) rfl) ?_
    refine GSteps.cons (gm_val (v := .bool true) rfl (fun _ => rfl) (fun _ => rfl) (fun γ w h => ex_igeq rfl rfl true rfl) rfl) ?_
    exact GSteps.nil
  intro _ w7 hb7 _ _
  refine th_r ?_
  have A8 := A5.keep hb7.out
  have HB9 := below_then HB6 hb7.out
  refine wp_cond_true rfl ?_
  refine wp_skip ?_
  refine th_r ?_
  refine wp_seq ?_
  refine wp_block ?_
  refine wp_seq (region_m (F := fun _ => ⟨#[nv 4 [k], .pointer (some ⟨(γ1 0), 0, none⟩), .int .i64 0, .int .i64 3, .int .i64 3, .bool true, undef, undef, .int .i64 3, .pointer (some ⟨(γ1 0), 3, none⟩), .int .u64 ((lb k 3 : Nat) : Int), .bool true, undef, undef, undef, undef, undef, undef, undef], []⟩) 0 (fun _ => 0) (fun _ => 0) (fun _ => 0) (fun _ => []) (fun _ => []) [8, 9, 10, 11] (.inr ⟨rfl, by kernel_rfl⟩) (by kernel_rfl) rfl rfl rfl ?_ ?_)
  · refine GSteps.cons (gm_val (v := .int .i64 3) rfl (fun _ => rfl) (fun _ => rfl) (fun γ w h => ex_move _) rfl) ?_
    refine GSteps.cons (gm_valg (fun γ => .pointer (some ⟨(γ1 0), 3, none⟩)) rfl (fun _ => rfl) (fun _ => rfl) (fun γ w h => ex_indexFr2 3 rfl rfl (by decide)) rfl) ?_
    refine GSteps.cons (gm_val (v := .int .u64 ((lb k 3 : Nat) : Int)) rfl (fun _ => rfl) (fun _ => rfl) (fun γ w h => ex_loadlimb (v := k) (o := 3) (K := 4) (A8.keep h.out) (by decide) rfl sgU64) rfl) ?_
    refine GSteps.cons (gm_val (v := .bool true) rfl (fun _ => rfl) (fun _ => rfl) (fun γ w h => ex_neqi rfl rfl true (by simp [h3])) rfl) ?_
    exact GSteps.nil
  intro _ w10 hb10 _ _
  refine th_r ?_
  have A11 := A8.keep hb10.out
  have HB12 := below_then HB9 hb10.out
  refine wp_cond_true rfl ?_
  refine wp_seq (region_m (F := fun _ => ⟨#[nv 4 [k], .pointer (some ⟨(γ1 0), 0, none⟩), .int .i64 ((192 + nbits (lb k 3) : Nat) : Int), .int .i64 3, .int .i64 3, .bool true, undef, undef, .int .i64 3, .pointer (some ⟨(γ1 0), 3, none⟩), .int .u64 ((lb k 3 : Nat) : Int), .bool true, .int .i64 3, .int .i64 192, .int .i64 3, .pointer (some ⟨(γ1 0), 3, none⟩), .int .u64 ((lb k 3 : Nat) : Int), .int .i64 ((nbits (lb k 3) : Nat) : Int), .int .i64 ((192 + nbits (lb k 3) : Nat) : Int)], []⟩) 0 (fun _ => 0) (fun _ => 0) (fun _ => 0) (fun _ => []) (fun _ => []) [12, 13, 14, 15, 16, 17, 18, 2] (.inr ⟨rfl, by kernel_rfl⟩) (by kernel_rfl) rfl rfl rfl ?_ ?_)
  · refine GSteps.cons (gm_val (v := .int .i64 3) rfl (fun _ => rfl) (fun _ => rfl) (fun γ w h => ex_move _) rfl) ?_
    refine GSteps.cons (gm_val (v := .int .i64 192) rfl (fun _ => rfl) (fun _ => rfl) (fun γ w h => ex_imul rfl rfl 192 rfl) rfl) ?_
    refine GSteps.cons (gm_val (v := .int .i64 3) rfl (fun _ => rfl) (fun _ => rfl) (fun γ w h => ex_move _) rfl) ?_
    refine GSteps.cons (gm_valg (fun γ => .pointer (some ⟨(γ1 0), 3, none⟩)) rfl (fun _ => rfl) (fun _ => rfl) (fun γ w h => ex_indexFr2 3 rfl rfl (by decide)) rfl) ?_
    refine GSteps.cons (gm_val (v := .int .u64 ((lb k 3 : Nat) : Int)) rfl (fun _ => rfl) (fun _ => rfl) (fun γ w h => ex_loadlimb (v := k) (o := 3) (K := 4) (A11.keep h.out) (by decide) rfl sgU64) rfl) ?_
    refine GSteps.cons (gm_call (v := .int .i64 ((nbits (lb k 3) : Nat) : Int)) rfl (fun _ => rfl) (fun _ => rfl) (fun γ w => ex_call (vs := [.int .u64 ((lb k 3 : Nat) : Int)]) rfl Try.call65 rfl) (fun w h => len64_is _ _ (lb_lt k 3)) rfl) ?_
    refine GSteps.cons (gm_val (v := .int .i64 ((192 + nbits (lb k 3) : Nat) : Int)) rfl (fun _ => rfl) (fun _ => rfl) (fun γ w h => ex_iadd rfl rfl ((192 + nbits (lb k 3) : Nat) : Int) (by have := lb_nbits k 3; rw [wrapI64 (by omega) (by omega)]; omega)) rfl) ?_
    refine GSteps.cons (gm_val (v := .int .i64 ((192 + nbits (lb k 3) : Nat) : Int)) rfl (fun _ => rfl) (fun _ => rfl) (fun γ w h => ex_assign _) rfl) ?_
    exact GSteps.nil
  intro _ w13 hb13 _ _
  refine th_r ?_
  have A14 := A11.keep hb13.out
  have HB15 := below_then HB12 hb13.out
  exact wp_ret (bk_r (th_ret (th_ret (bk_r (th_ret (bodyPost_ret (ret1 Try.results52 (res_tmp rfl)) rfl ⟨rfl, HB15⟩))))))

set_option maxRecDepth 20000 in
set_option maxHeartbeats 4000000 in
theorem twolength_2 (k : Nat) (h3 : lb k 3 = 0) (h2 : lb k 2 ≠ 0) (w : World) :
    Calls Try.prog 52 #[nv 4 [k]] w (Is (.int .i64 ((128 + nbits (lb k 2) : Nat) : Int)) w) := by
  go_enter Try.func52, Try.ntmps52
  refine wp_seq (region_m (F := fun γ => ⟨#[nv 4 [k], .pointer (some ⟨γ 0, 0, none⟩), .int .i64 0, undef, undef, undef, undef, undef, undef, undef, undef, undef, undef, undef, undef, undef, undef, undef, undef], []⟩) 1 (fun _ => 44) (fun _ => 0) (fun _ => 0) (fun _ => segs [.n 4 k]) (fun _ => segs [.n 4 k]) [1, 2] (.inr ⟨rfl, by kernel_rfl⟩) (by kernel_rfl) rfl rfl rfl ?_ ?_)
  · refine GSteps.cons (gm_box 0 rfl (fun _ => rfl) (fun _ _ => rfl) (fun γ w h => ex_boxsn (K := 4) (l := [k]) rfl) rfl rfl rfl) ?_
    refine GSteps.cons (gm_val (v := .int .i64 0) rfl (fun _ => rfl) (fun _ => rfl) (fun γ w h => ex_assign _) rfl) ?_
    exact GSteps.nil
  intro γ1 w1 hb1 hB1 _
  refine th_r ?_
  have A2 : SB 44 w1 (γ1 0) [.n 4 k] := (hB1 0 (by decide)).2
  have le2 := (hB1 0 (by decide)).1
  have HB3 := below_then (Below.refl w.heap.size w) hb1.out
  refine wp_seq ?_
  refine wp_seq (region_m (F := fun _ => ⟨#[nv 4 [k], .pointer (some ⟨(γ1 0), 0, none⟩), .int .i64 0, .int .i64 3, undef, undef, undef, undef, undef, undef, undef, undef, undef, undef, undef, undef, undef, undef, undef], []⟩) 0 (fun _ => 0) (fun _ => 0) (fun _ => 0) (fun _ => []) (fun _ => []) [3] (.inr ⟨rfl, by kernel_rfl⟩) (by kernel_rfl) rfl rfl rfl ?_ ?_)
  · refine GSteps.cons (gm_val (v := .int .i64 3) rfl (fun _ => rfl) (fun _ => rfl) (fun γ w h => ex_assign _) rfl) ?_
    exact GSteps.nil
  intro _ w4 hb4 _ _
  refine th_r ?_
  have A5 := A2.keep hb4.out
  have HB6 := below_then HB3 hb4.out
  refine wp_block ?_
  refine wp_loop_rounds 6 ?_
  rw [rounds_succ]
  refine wp_seq ?_
  refine wp_seq (region_m (F := fun _ => ⟨#[nv 4 [k], .pointer (some ⟨(γ1 0), 0, none⟩), .int .i64 0, .int .i64 3, .int .i64 3, .bool true, undef, undef, undef, undef, undef, undef, undef, undef, undef, undef, undef, undef, undef], []⟩) 0 (fun _ => 0) (fun _ => 0) (fun _ => 0) (fun _ => []) (fun _ => []) [4, 5] (.inr ⟨rfl, by kernel_rfl⟩) (by kernel_rfl) rfl rfl rfl ?_ ?_)
  · refine GSteps.cons (gm_val (v := .int .i64 3) rfl (fun _ => rfl) (fun _ => rfl) (fun γ w h => ex_move _) rfl) ?_
    refine GSteps.cons (gm_val (v := .bool true) rfl (fun _ => rfl) (fun _ => rfl) (fun γ w h => ex_igeq rfl rfl true rfl) rfl) ?_
    exact GSteps.nil
  intro _ w7 hb7 _ _
  refine th_r ?_
  have A8 := A5.keep hb7.out
  have HB9 := below_then HB6 hb7.out
  refine wp_cond_true rfl ?_
  refine wp_skip ?_
  refine th_r ?_
  refine wp_seq ?_
  refine wp_block ?_
  refine wp_seq (region_m (F := fun _ => ⟨#[nv 4 [k], .pointer (some ⟨(γ1 0), 0, none⟩), .int .i64 0, .int .i64 3, .int .i64 3, .bool true, undef, undef, .int .i64 3, .pointer (some ⟨(γ1 0), 3, none⟩), .int .u64 ((lb k 3 : Nat) : Int), .bool false, undef, undef, undef, undef, undef, undef, undef], []⟩) 0 (fun _ => 0) (fun _ => 0) (fun _ => 0) (fun _ => []) (fun _ => []) [8, 9, 10, 11] (.inr ⟨rfl, by kernel_rfl⟩) (by kernel_rfl) rfl rfl rfl ?_ ?_)
  · refine GSteps.cons (gm_val (v := .int .i64 3) rfl (fun _ => rfl) (fun _ => rfl) (fun γ w h => ex_move _) rfl) ?_
    refine GSteps.cons (gm_valg (fun γ => .pointer (some ⟨(γ1 0), 3, none⟩)) rfl (fun _ => rfl) (fun _ => rfl) (fun γ w h => ex_indexFr2 3 rfl rfl (by decide)) rfl) ?_
    refine GSteps.cons (gm_val (v := .int .u64 ((lb k 3 : Nat) : Int)) rfl (fun _ => rfl) (fun _ => rfl) (fun γ w h => ex_loadlimb (v := k) (o := 3) (K := 4) (A8.keep h.out) (by decide) rfl sgU64) rfl) ?_
    refine GSteps.cons (gm_val (v := .bool false) rfl (fun _ => rfl) (fun _ => rfl) (fun γ w h => ex_neqi rfl rfl false (by simp [h3])) rfl) ?_
    exact GSteps.nil
  intro _ w10 hb10 _ _
  refine th_r ?_
  have A11 := A8.keep hb10.out
  have HB12 := below_then HB9 hb10.out
  refine wp_cond_false rfl ?_
  refine wp_skip ?_
  refine bk_n ?_
  refine th_r ?_
  refine wp_region_lit ?_
  refine sq_val (a' := ⟨#[nv 4 [k], .pointer (some ⟨(γ1 0), 0, none⟩), .int .i64 0, .int .i64 3, .int .i64 3, .bool true, .int .i64 3, undef, .int .i64 3, .pointer (some ⟨(γ1 0), 3, none⟩), .int .u64 ((lb k 3 : Nat) : Int), .bool false, undef, undef, undef, undef, undef, undef, undef], []⟩) (v := .int .i64 3) rfl rfl (ex_move _) ?_
  refine sq_val (a' := ⟨#[nv 4 [k], .pointer (some ⟨(γ1 0), 0, none⟩), .int .i64 0, .int .i64 3, .int .i64 3, .bool true, .int .i64 3, .int .i64 2, .int .i64 3, .pointer (some ⟨(γ1 0), 3, none⟩), .int .u64 ((lb k 3 : Nat) : Int), .bool false, undef, undef, undef, undef, undef, undef, undef], []⟩) (v := .int .i64 2) rfl rfl (ex_isub rfl rfl 2 rfl) ?_
  refine sq_val (a' := ⟨#[nv 4 [k], .pointer (some ⟨(γ1 0), 0, none⟩), .int .i64 0, .int .i64 2, .int .i64 3, .bool true, .int .i64 3, .int .i64 2, .int .i64 3, .pointer (some ⟨(γ1 0), 3, none⟩), .int .u64 ((lb k 3 : Nat) : Int), .bool false, undef, undef, undef, undef, undef, undef, undef], []⟩) (v := .int .i64 2) rfl rfl (ex_assign _) ?_
  refine wpList_nil ?_
  refine th_r ?_
  rw [rounds_succ]
  refine wp_seq ?_
  refine wp_seq (region_m (F := fun _ => ⟨#[nv 4 [k], .pointer (some ⟨(γ1 0), 0, none⟩), .int .i64 0, .int .i64 2, .int .i64 2, .bool true, .int .i64 3, .int .i64 2, .int .i64 3, .pointer (some ⟨(γ1 0), 3, none⟩), .int .u64 ((lb k 3 : Nat) : Int), .bool false, undef, undef, undef, undef, undef, undef, undef], []⟩) 0 (fun _ => 0) (fun _ => 0) (fun _ => 0) (fun _ => []) (fun _ => []) [4, 5] (.inr ⟨rfl, by kernel_rfl⟩) (by kernel_rfl) rfl rfl rfl ?_ ?_)
  · refine GSteps.cons (gm_val (v := .int .i64 2) rfl (fun _ => rfl) (fun _ => rfl) (fun γ w h => ex_move _) rfl) ?_
    refine GSteps.cons (gm_val (v := .bool true) rfl (fun _ => rfl) (fun _ => rfl) (fun γ w h => ex_igeq rfl rfl true rfl) rfl) ?_
    exact GSteps.nil
  intro _ w13 hb13 _ _
  refine th_r ?_
  have A14 := A11.keep hb13.out
  have HB15 := below_then HB12 hb13.out
  refine wp_cond_true rfl ?_
  refine wp_skip ?_
  refine th_r ?_
  refine wp_seq ?_
  refine wp_block ?_
  refine wp_seq (region_m (F := fun _ => ⟨#[nv 4 [k], .pointer (some ⟨(γ1 0), 0, none⟩), .int .i64 0, .int .i64 2, .int .i64 2, .bool true, .int .i64 3, .int .i64 2, .int .i64 2, .pointer (some ⟨(γ1 0), 2, none⟩), .int .u64 ((lb k 2 : Nat) : Int), .bool true, undef, undef, undef, undef, undef, undef, undef], []⟩) 0 (fun _ => 0) (fun _ => 0) (fun _ => 0) (fun _ => []) (fun _ => []) [8, 9, 10, 11] (.inr ⟨rfl, by kernel_rfl⟩) (by kernel_rfl) rfl rfl rfl ?_ ?_)
  · refine GSteps.cons (gm_val (v := .int .i64 2) rfl (fun _ => rfl) (fun _ => rfl) (fun γ w h => ex_move _) rfl) ?_
    refine GSteps.cons (gm_valg (fun γ => .pointer (some ⟨(γ1 0), 2, none⟩)) rfl (fun _ => rfl) (fun _ => rfl) (fun γ w h => ex_indexFr2 2 rfl rfl (by decide)) rfl) ?_
    refine GSteps.cons (gm_val (v := .int .u64 ((lb k 2 : Nat) : Int)) rfl (fun _ => rfl) (fun _ => rfl) (fun γ w h => ex_loadlimb (v := k) (o := 2) (K := 4) (A14.keep h.out) (by decide) rfl sgU64) rfl) ?_
    refine GSteps.cons (gm_val (v := .bool true) rfl (fun _ => rfl) (fun _ => rfl) (fun γ w h => ex_neqi rfl rfl true (by simp [h2])) rfl) ?_
    exact GSteps.nil
  intro _ w16 hb16 _ _
  refine th_r ?_
  have A17 := A14.keep hb16.out
  have HB18 := below_then HB15 hb16.out
  refine wp_cond_true rfl ?_
  refine wp_seq (region_m (F := fun _ => ⟨#[nv 4 [k], .pointer (some ⟨(γ1 0), 0, none⟩), .int .i64 ((128 + nbits (lb k 2) : Nat) : Int), .int .i64 2, .int .i64 2, .bool true, .int .i64 3, .int .i64 2, .int .i64 2, .pointer (some ⟨(γ1 0), 2, none⟩), .int .u64 ((lb k 2 : Nat) : Int), .bool true, .int .i64 2, .int .i64 128, .int .i64 2, .pointer (some ⟨(γ1 0), 2, none⟩), .int .u64 ((lb k 2 : Nat) : Int), .int .i64 ((nbits (lb k 2) : Nat) : Int), .int .i64 ((128 + nbits (lb k 2) : Nat) : Int)], []⟩) 0 (fun _ => 0) (fun _ => 0) (fun _ => 0) (fun _ => []) (fun _ => []) [12, 13, 14, 15, 16, 17, 18, 2] (.inr ⟨rfl, by kernel_rfl⟩) (by kernel_rfl) rfl rfl rfl ?_ ?_)
  · refine GSteps.cons (gm_val (v := .int .i64 2) rfl (fun _ => rfl) (fun _ => rfl) (fun γ w h => ex_move _) rfl) ?_
    refine GSteps.cons (gm_val (v := .int .i64 128) rfl (fun _ => rfl) (fun _ => rfl) (fun γ w h => ex_imul rfl rfl 128 rfl) rfl) ?_
    refine GSteps.cons (gm_val (v := .int .i64 2) rfl (fun _ => rfl) (fun _ => rfl) (fun γ w h => ex_move _) rfl) ?_
    refine GSteps.cons (gm_valg (fun γ => .pointer (some ⟨(γ1 0), 2, none⟩)) rfl (fun _ => rfl) (fun _ => rfl) (fun γ w h => ex_indexFr2 2 rfl rfl (by decide)) rfl) ?_
    refine GSteps.cons (gm_val (v := .int .u64 ((lb k 2 : Nat) : Int)) rfl (fun _ => rfl) (fun _ => rfl) (fun γ w h => ex_loadlimb (v := k) (o := 2) (K := 4) (A17.keep h.out) (by decide) rfl sgU64) rfl) ?_
    refine GSteps.cons (gm_call (v := .int .i64 ((nbits (lb k 2) : Nat) : Int)) rfl (fun _ => rfl) (fun _ => rfl) (fun γ w => ex_call (vs := [.int .u64 ((lb k 2 : Nat) : Int)]) rfl Try.call65 rfl) (fun w h => len64_is _ _ (lb_lt k 2)) rfl) ?_
    refine GSteps.cons (gm_val (v := .int .i64 ((128 + nbits (lb k 2) : Nat) : Int)) rfl (fun _ => rfl) (fun _ => rfl) (fun γ w h => ex_iadd rfl rfl ((128 + nbits (lb k 2) : Nat) : Int) (by have := lb_nbits k 2; rw [wrapI64 (by omega) (by omega)]; omega)) rfl) ?_
    refine GSteps.cons (gm_val (v := .int .i64 ((128 + nbits (lb k 2) : Nat) : Int)) rfl (fun _ => rfl) (fun _ => rfl) (fun γ w h => ex_assign _) rfl) ?_
    exact GSteps.nil
  intro _ w19 hb19 _ _
  refine th_r ?_
  have A20 := A17.keep hb19.out
  have HB21 := below_then HB18 hb19.out
  exact wp_ret (bk_r (th_ret (th_ret (bk_r (th_ret (bodyPost_ret (ret1 Try.results52 (res_tmp rfl)) rfl ⟨rfl, HB21⟩))))))

set_option maxRecDepth 20000 in
set_option maxHeartbeats 4000000 in
theorem twolength_1 (k : Nat) (h3 : lb k 3 = 0) (h2 : lb k 2 = 0) (h1 : lb k 1 ≠ 0) (w : World) :
    Calls Try.prog 52 #[nv 4 [k]] w (Is (.int .i64 ((64 + nbits (lb k 1) : Nat) : Int)) w) := by
  go_enter Try.func52, Try.ntmps52
  refine wp_seq (region_m (F := fun γ => ⟨#[nv 4 [k], .pointer (some ⟨γ 0, 0, none⟩), .int .i64 0, undef, undef, undef, undef, undef, undef, undef, undef, undef, undef, undef, undef, undef, undef, undef, undef], []⟩) 1 (fun _ => 44) (fun _ => 0) (fun _ => 0) (fun _ => segs [.n 4 k]) (fun _ => segs [.n 4 k]) [1, 2] (.inr ⟨rfl, by kernel_rfl⟩) (by kernel_rfl) rfl rfl rfl ?_ ?_)
  · refine GSteps.cons (gm_box 0 rfl (fun _ => rfl) (fun _ _ => rfl) (fun γ w h => ex_boxsn (K := 4) (l := [k]) rfl) rfl rfl rfl) ?_
    refine GSteps.cons (gm_val (v := .int .i64 0) rfl (fun _ => rfl) (fun _ => rfl) (fun γ w h => ex_assign _) rfl) ?_
    exact GSteps.nil
  intro γ1 w1 hb1 hB1 _
  refine th_r ?_
  have A2 : SB 44 w1 (γ1 0) [.n 4 k] := (hB1 0 (by decide)).2
  have le2 := (hB1 0 (by decide)).1
  have HB3 := below_then (Below.refl w.heap.size w) hb1.out
  refine wp_seq ?_
  refine wp_seq (region_m (F := fun _ => ⟨#[nv 4 [k], .pointer (some ⟨(γ1 0), 0, none⟩), .int .i64 0, .int .i64 3, undef, undef, undef, undef, undef, undef, undef, undef, undef, undef, undef, undef, undef, undef, undef], []⟩) 0 (fun _ => 0) (fun _ => 0) (fun _ => 0) (fun _ => []) (fun _ => []) [3] (.inr ⟨rfl, by kernel_rfl⟩) (by kernel_rfl) rfl rfl rfl ?_ ?_)
  · refine GSteps.cons (gm_val (v := .int .i64 3) rfl (fun _ => rfl) (fun _ => rfl) (fun γ w h => ex_assign _) rfl) ?_
    exact GSteps.nil
  intro _ w4 hb4 _ _
  refine th_r ?_
  have A5 := A2.keep hb4.out
  have HB6 := below_then HB3 hb4.out
  refine wp_block ?_
  refine wp_loop_rounds 6 ?_
  rw [rounds_succ]
  refine wp_seq ?_
  refine wp_seq (region_m (F := fun _ => ⟨#[nv 4 [k], .pointer (some ⟨(γ1 0), 0, none⟩), .int .i64 0, .int .i64 3, .int .i64 3, .bool true, undef, undef, undef, undef, undef, undef, undef, undef, undef, undef, undef, undef, undef], []⟩) 0 (fun _ => 0) (fun _ => 0) (fun _ => 0) (fun _ => []) (fun _ => []) [4, 5] (.inr ⟨rfl, by kernel_rfl⟩) (by kernel_rfl) rfl rfl rfl ?_ ?_)
  · refine GSteps.cons (gm_val (v := .int .i64 3) rfl (fun _ => rfl) (fun _ => rfl) (fun γ w h => ex_move _) rfl) ?_
    refine GSteps.cons (gm_val (v := .bool true) rfl (fun _ => rfl) (fun _ => rfl) (fun γ w h => ex_igeq rfl rfl true rfl) rfl) ?_
    exact GSteps.nil
  intro _ w7 hb7 _ _
  refine th_r ?_
  have A8 := A5.keep hb7.out
  have HB9 := below_then HB6 hb7.out
  refine wp_cond_true rfl ?_
  refine wp_skip ?_
  refine th_r ?_
  refine wp_seq ?_
  refine wp_block ?_
  refine wp_seq (region_m (F := fun _ => ⟨#[nv 4 [k], .pointer (some ⟨(γ1 0), 0, none⟩), .int .i64 0, .int .i64 3, .int .i64 3, .bool true, undef, undef, .int .i64 3, .pointer (some ⟨(γ1 0), 3, none⟩), .int .u64 ((lb k 3 : Nat) : Int), .bool false, undef, undef, undef, undef, undef, undef, undef], []⟩) 0 (fun _ => 0) (fun _ => 0) (fun _ => 0) (fun _ => []) (fun _ => []) [8, 9, 10, 11] (.inr ⟨rfl, by kernel_rfl⟩) (by kernel_rfl) rfl rfl rfl ?_ ?_)
  · refine GSteps.cons (gm_val (v := .int .i64 3) rfl (fun _ => rfl) (fun _ => rfl) (fun γ w h => ex_move _) rfl) ?_
    refine GSteps.cons (gm_valg (fun γ => .pointer (some ⟨(γ1 0), 3, none⟩)) rfl (fun _ => rfl) (fun _ => rfl) (fun γ w h => ex_indexFr2 3 rfl rfl (by decide)) rfl) ?_
    refine GSteps.cons (gm_val (v := .int .u64 ((lb k 3 : Nat) : Int)) rfl (fun _ => rfl) (fun _ => rfl) (fun γ w h => ex_loadlimb (v := k) (o := 3) (K := 4) (A8.keep h.out) (by decide) rfl sgU64) rfl) ?_
    refine GSteps.cons (gm_val (v := .bool false) rfl (fun _ => rfl) (fun _ => rfl) (fun γ w h => ex_neqi rfl rfl false (by simp [h3])) rfl) ?_
    exact GSteps.nil
  intro _ w10 hb10 _ _
  refine th_r ?_
  have A11 := A8.keep hb10.out
  have HB12 := below_then HB9 hb10.out
  refine wp_cond_false rfl ?_
  refine wp_skip ?_
  refine bk_n ?_
  refine th_r ?_
  refine wp_region_lit ?_
  refine sq_val (a' := ⟨#[nv 4 [k], .pointer (some ⟨(γ1 0), 0, none⟩), .int .i64 0, .int .i64 3, .int .i64 3, .bool true, .int .i64 3, undef, .int .i64 3, .pointer (some ⟨(γ1 0), 3, none⟩), .int .u64 ((lb k 3 : Nat) : Int), .bool false, undef, undef, undef, undef, undef, undef, undef], []⟩) (v := .int .i64 3) rfl rfl (ex_move _) ?_
  refine sq_val (a' := ⟨#[nv 4 [k], .pointer (some ⟨(γ1 0), 0, none⟩), .int .i64 0, .int .i64 3, .int .i64 3, .bool true, .int .i64 3, .int .i64 2, .int .i64 3, .pointer (some ⟨(γ1 0), 3, none⟩), .int .u64 ((lb k 3 : Nat) : Int), .bool false, undef, undef, undef, undef, undef, undef, undef], []⟩) (v := .int .i64 2) rfl rfl (ex_isub rfl rfl 2 rfl) ?_
  refine sq_val (a' := ⟨#[nv 4 [k], .pointer (some ⟨(γ1 0), 0, none⟩), .int .i64 0, .int .i64 2, .int .i64 3, .bool true, .int .i64 3, .int .i64 2, .int .i64 3, .pointer (some ⟨(γ1 0), 3, none⟩), .int .u64 ((lb k 3 : Nat) : Int), .bool false, undef, undef, undef, undef, undef, undef, undef], []⟩) (v := .int .i64 2) rfl rfl (ex_assign _) ?_
  refine wpList_nil ?_
  refine th_r ?_
  rw [rounds_succ]
  refine wp_seq ?_
  refine wp_seq (region_m (F := fun _ => ⟨#[nv 4 [k], .pointer (some ⟨(γ1 0), 0, none⟩), .int .i64 0, .int .i64 2, .int .i64 2, .bool true, .int .i64 3, .int .i64 2, .int .i64 3, .pointer (some ⟨(γ1 0), 3, none⟩), .int .u64 ((lb k 3 : Nat) : Int), .bool false, undef, undef, undef, undef, undef, undef, undef], []⟩) 0 (fun _ => 0) (fun _ => 0) (fun _ => 0) (fun _ => []) (fun _ => []) [4, 5] (.inr ⟨rfl, by kernel_rfl⟩) (by kernel_rfl) rfl rfl rfl ?_ ?_)
  · refine GSteps.cons (gm_val (v := .int .i64 2) rfl (fun _ => rfl) (fun _ => rfl) (fun γ w h => ex_move _) rfl) ?_
    refine GSteps.cons (gm_val (v := .bool true) rfl (fun _ => rfl) (fun _ => rfl) (fun γ w h => ex_igeq rfl rfl true rfl) rfl) ?_
    exact GSteps.nil
  intro _ w13 hb13 _ _
  refine th_r ?_
  have A14 := A11.keep hb13.out
  have HB15 := below_then HB12 hb13.out
  refine wp_cond_true rfl ?_
  refine wp_skip ?_
  refine th_r ?_
  refine wp_seq ?_
  refine wp_block ?_
  refine wp_seq (region_m (F := fun _ => ⟨#[nv 4 [k], .pointer (some ⟨(γ1 0), 0, none⟩), .int .i64 0, .int .i64 2, .int .i64 2, .bool true, .int .i64 3, .int .i64 2, .int .i64 2, .pointer (some ⟨(γ1 0), 2, none⟩), .int .u64 ((lb k 2 : Nat) : Int), .bool false, undef, undef, undef, undef, undef, undef, undef], []⟩) 0 (fun _ => 0) (fun _ => 0) (fun _ => 0) (fun _ => []) (fun _ => []) [8, 9, 10, 11] (.inr ⟨rfl, by kernel_rfl⟩) (by kernel_rfl) rfl rfl rfl ?_ ?_)
  · refine GSteps.cons (gm_val (v := .int .i64 2) rfl (fun _ => rfl) (fun _ => rfl) (fun γ w h => ex_move _) rfl) ?_
    refine GSteps.cons (gm_valg (fun γ => .pointer (some ⟨(γ1 0), 2, none⟩)) rfl (fun _ => rfl) (fun _ => rfl) (fun γ w h => ex_indexFr2 2 rfl rfl (by decide)) rfl) ?_
    refine GSteps.cons (gm_val (v := .int .u64 ((lb k 2 : Nat) : Int)) rfl (fun _ => rfl) (fun _ => rfl) (fun γ w h => ex_loadlimb (v := k) (o := 2) (K := 4) (A14.keep h.out) (by decide) rfl sgU64) rfl) ?_
    refine GSteps.cons (gm_val (v := .bool false) rfl (fun _ => rfl) (fun _ => rfl) (fun γ w h => ex_neqi rfl rfl false (by simp [h2])) rfl) ?_
    exact GSteps.nil
  intro _ w16 hb16 _ _
  refine th_r ?_
  have A17 := A14.keep hb16.out
  have HB18 := below_then HB15 hb16.out
  refine wp_cond_false rfl ?_
  refine wp_skip ?_
  refine bk_n ?_
  refine th_r ?_
  refine wp_region_lit ?_
  refine sq_val (a' := ⟨#[nv 4 [k], .pointer (some ⟨(γ1 0), 0, none⟩), .int .i64 0, .int .i64 2, .int .i64 2, .bool true, .int .i64 2, .int .i64 2, .int .i64 2, .pointer (some ⟨(γ1 0), 2, none⟩), .int .u64 ((lb k 2 : Nat) : Int), .bool false, undef, undef, undef, undef, undef, undef, undef], []⟩) (v := .int .i64 2) rfl rfl (ex_move _) ?_
  refine sq_val (a' := ⟨#[nv 4 [k], .pointer (some ⟨(γ1 0), 0, none⟩), .int .i64 0, .int .i64 2, .int .i64 2, .bool true, .int .i64 2, .int .i64 1, .int .i64 2, .pointer (some ⟨(γ1 0), 2, none⟩), .int .u64 ((lb k 2 : Nat) : Int), .bool false, undef, undef, undef, undef, undef, undef, undef], []⟩) (v := .int .i64 1) rfl rfl (ex_isub rfl rfl 1 rfl) ?_
  refine sq_val (a' := ⟨#[nv 4 [k], .pointer (some ⟨(γ1 0), 0, none⟩), .int .i64 0, .int .i64 1, .int .i64 2, .bool true, .int .i64 2, .int .i64 1, .int .i64 2, .pointer (some ⟨(γ1 0), 2, none⟩), .int .u64 ((lb k 2 : Nat) : Int), .bool false, undef, undef, undef, undef, undef, undef, undef], []⟩) (v := .int .i64 1) rfl rfl (ex_assign _) ?_
  refine wpList_nil ?_
  refine th_r ?_
  rw [rounds_succ]
  refine wp_seq ?_
  refine wp_seq (region_m (F := fun _ => ⟨#[nv 4 [k], .pointer (some ⟨(γ1 0), 0, none⟩), .int .i64 0, .int .i64 1, .int .i64 1, .bool true, .int .i64 2, .int .i64 1, .int .i64 2, .pointer (some ⟨(γ1 0), 2, none⟩), .int .u64 ((lb k 2 : Nat) : Int), .bool false, undef, undef, undef, undef, undef, undef, undef], []⟩) 0 (fun _ => 0) (fun _ => 0) (fun _ => 0) (fun _ => []) (fun _ => []) [4, 5] (.inr ⟨rfl, by kernel_rfl⟩) (by kernel_rfl) rfl rfl rfl ?_ ?_)
  · refine GSteps.cons (gm_val (v := .int .i64 1) rfl (fun _ => rfl) (fun _ => rfl) (fun γ w h => ex_move _) rfl) ?_
    refine GSteps.cons (gm_val (v := .bool true) rfl (fun _ => rfl) (fun _ => rfl) (fun γ w h => ex_igeq rfl rfl true rfl) rfl) ?_
    exact GSteps.nil
  intro _ w19 hb19 _ _
  refine th_r ?_
  have A20 := A17.keep hb19.out
  have HB21 := below_then HB18 hb19.out
  refine wp_cond_true rfl ?_
  refine wp_skip ?_
  refine th_r ?_
  refine wp_seq ?_
  refine wp_block ?_
  refine wp_seq (region_m (F := fun _ => ⟨#[nv 4 [k], .pointer (some ⟨(γ1 0), 0, none⟩), .int .i64 0, .int .i64 1, .int .i64 1, .bool true, .int .i64 2, .int .i64 1, .int .i64 1, .pointer (some ⟨(γ1 0), 1, none⟩), .int .u64 ((lb k 1 : Nat) : Int), .bool true, undef, undef, undef, undef, undef, undef, undef], []⟩) 0 (fun _ => 0) (fun _ => 0) (fun _ => 0) (fun _ => []) (fun _ => []) [8, 9, 10, 11] (.inr ⟨rfl, by kernel_rfl⟩) (by kernel_rfl) rfl rfl rfl ?_ ?_)
  · refine GSteps.cons (gm_val (v := .int .i64 1) rfl (fun _ => rfl) (fun _ => rfl) (fun γ w h => ex_move _) rfl) ?_
    refine GSteps.cons (gm_valg (fun γ => .pointer (some ⟨(γ1 0), 1, none⟩)) rfl (fun _ => rfl) (fun _ => rfl) (fun γ w h => ex_indexFr2 1 rfl rfl (by decide)) rfl) ?_
    refine GSteps.cons (gm_val (v := .int .u64 ((lb k 1 : Nat) : Int)) rfl (fun _ => rfl) (fun _ => rfl) (fun γ w h => ex_loadlimb (v := k) (o := 1) (K := 4) (A20.keep h.out) (by decide) rfl sgU64) rfl) ?_
    refine GSteps.cons (gm_val (v := .bool true) rfl (fun _ => rfl) (fun _ => rfl) (fun γ w h => ex_neqi rfl rfl true (by simp [h1])) rfl) ?_
    exact GSteps.nil
  intro _ w22 hb22 _ _
  refine th_r ?_
  have A23 := A20.keep hb22.out
  have HB24 := below_then HB21 hb22.out
  refine wp_cond_true rfl ?_
  refine wp_seq (region_m (F := fun _ => ⟨#[nv 4 [k], .pointer (some ⟨(γ1 0), 0, none⟩), .int .i64 ((64 + nbits (lb k 1) : Nat) : Int), .int .i64 1, .int .i64 1, .bool true, .int .i64 2, .int .i64 1, .int .i64 1, .pointer (some ⟨(γ1 0), 1, none⟩), .int .u64 ((lb k 1 : Nat) : Int), .bool true, .int .i64 1, .int .i64 64, .int .i64 1, .pointer (some ⟨(γ1 0), 1, none⟩), .int .u64 ((lb k 1 : Nat) : Int), .int .i64 ((nbits (lb k 1) : Nat) : Int), .int .i64 ((64 + nbits (lb k 1) : Nat) : Int)], []⟩) 0 (fun _ => 0) (fun _ => 0) (fun _ => 0) (fun _ => []) (fun _ => []) [12, 13, 14, 15, 16, 17, 18, 2] (.inr ⟨rfl, by kernel_rfl⟩) (by kernel_rfl) rfl rfl rfl ?_ ?_)
  · refine GSteps.cons (gm_val (v := .int .i64 1) rfl (fun _ => rfl) (fun _ => rfl) (fun γ w h => ex_move _) rfl) ?_
    refine GSteps.cons (gm_val (v := .int .i64 64) rfl (fun _ => rfl) (fun _ => rfl) (fun γ w h => ex_imul rfl rfl 64 rfl) rfl) ?_
    refine GSteps.cons (gm_val (v := .int .i64 1) rfl (fun _ => rfl) (fun _ => rfl) (fun γ w h => ex_move _) rfl) ?_
    refine GSteps.cons (gm_valg (fun γ => .pointer (some ⟨(γ1 0), 1, none⟩)) rfl (fun _ => rfl) (fun _ => rfl) (fun γ w h => ex_indexFr2 1 rfl rfl (by decide)) rfl) ?_
    refine GSteps.cons (gm_val (v := .int .u64 ((lb k 1 : Nat) : Int)) rfl (fun _ => rfl) (fun _ => rfl) (fun γ w h => ex_loadlimb (v := k) (o := 1) (K := 4) (A23.keep h.out) (by decide) rfl sgU64) rfl) ?_
    refine GSteps.cons (gm_call (v := .int .i64 ((nbits (lb k 1) : Nat) : Int)) rfl (fun _ => rfl) (fun _ => rfl) (fun γ w => ex_call (vs := [.int .u64 ((lb k 1 : Nat) : Int)]) rfl Try.call65 rfl) (fun w h => len64_is _ _ (lb_lt k 1)) rfl) ?_
    refine GSteps.cons (gm_val (v := .int .i64 ((64 + nbits (lb k 1) : Nat) : Int)) rfl (fun _ => rfl) (fun _ => rfl) (fun γ w h => ex_iadd rfl rfl ((64 + nbits (lb k 1) : Nat) : Int) (by have := lb_nbits k 1; rw [wrapI64 (by omega) (by omega)]; omega)) rfl) ?_
    refine GSteps.cons (gm_val (v := .int .i64 ((64 + nbits (lb k 1) : Nat) : Int)) rfl (fun _ => rfl) (fun _ => rfl) (fun γ w h => ex_assign _) rfl) ?_
    exact GSteps.nil
  intro _ w25 hb25 _ _
  refine th_r ?_
  have A26 := A23.keep hb25.out
  have HB27 := below_then HB24 hb25.out
  exact wp_ret (bk_r (th_ret (th_ret (bk_r (th_ret (bodyPost_ret (ret1 Try.results52 (res_tmp rfl)) rfl ⟨rfl, HB27⟩))))))

set_option maxRecDepth 20000 in
set_option maxHeartbeats 4000000 in
theorem twolength_0 (k : Nat) (h3 : lb k 3 = 0) (h2 : lb k 2 = 0) (h1 : lb k 1 = 0) (h0 : lb k 0 ≠ 0) (w : World) :
    Calls Try.prog 52 #[nv 4 [k]] w (Is (.int .i64 ((0 + nbits (lb k 0) : Nat) : Int)) w) := by
  go_enter Try.func52, Try.ntmps52
  refine wp_seq (region_m (F := fun γ => ⟨#[nv 4 [k], .pointer (some ⟨γ 0, 0, none⟩), .int .i64 0, undef, undef, undef, undef, undef, undef, undef, undef, undef, undef, undef, undef, undef, undef, undef, undef], []⟩) 1 (fun _ => 44) (fun _ => 0) (fun _ => 0) (fun _ => segs [.n 4 k]) (fun _ => segs [.n 4 k]) [1, 2] (.inr ⟨rfl, by kernel_rfl⟩) (by kernel_rfl) rfl rfl rfl ?_ ?_)
  · refine GSteps.cons (gm_box 0 rfl (fun _ => rfl) (fun _ _ => rfl) (fun γ w h => ex_boxsn (K := 4) (l := [k]) rfl) rfl rfl rfl) ?_
    refine GSteps.cons (gm_val (v := .int .i64 0) rfl (fun _ => rfl) (fun _ => rfl) (fun γ w h => ex_assign _) rfl) ?_
    exact GSteps.nil
  intro γ1 w1 hb1 hB1 _
  refine th_r ?_
  have A2 : SB 44 w1 (γ1 0) [.n 4 k] := (hB1 0 (by decide)).2
  have le2 := (hB1 0 (by decide)).1
  have HB3 := below_then (Below.refl w.heap.size w) hb1.out
  refine wp_seq ?_
  refine wp_seq (region_m (F := fun _ => ⟨#[nv 4 [k], .pointer (some ⟨(γ1 0), 0, none⟩), .int .i64 0, .int .i64 3, undef, undef, undef, undef, undef, undef, undef, undef, undef, undef, undef, undef, undef, undef, undef], []⟩) 0 (fun _ => 0) (fun _ => 0) (fun _ => 0) (fun _ => []) (fun _ => []) [3] (.inr ⟨rfl, by kernel_rfl⟩) (by kernel_rfl) rfl rfl rfl ?_ ?_)
  · refine GSteps.cons (gm_val (v := .int .i64 3) rfl (fun _ => rfl) (fun _ => rfl) (fun γ w h => ex_assign _) rfl) ?_
    exact GSteps.nil
  intro _ w4 hb4 _ _
  refine th_r ?_
  have A5 := A2.keep hb4.out
  have HB6 := below_then HB3 hb4.out
  refine wp_block ?_
  refine wp_loop_rounds 6 ?_
  rw [rounds_succ]
  refine wp_seq ?_
  refine wp_seq (region_m (F := fun _ => ⟨#[nv 4 [k], .pointer (some ⟨(γ1 0), 0, none⟩), .int .i64 0, .int .i64 3, .int .i64 3, .bool true, undef, undef, undef, undef, undef, undef, undef, undef, undef, undef, undef, undef, undef], []⟩) 0 (fun _ => 0) (fun _ => 0) (fun _ => 0) (fun _ => []) (fun _ => []) [4, 5] (.inr ⟨rfl, by kernel_rfl⟩) (by kernel_rfl) rfl rfl rfl ?_ ?_)
  · refine GSteps.cons (gm_val (v := .int .i64 3) rfl (fun _ => rfl) (fun _ => rfl) (fun γ w h => ex_move _) rfl) ?_
    refine GSteps.cons (gm_val (v := .bool true) rfl (fun _ => rfl) (fun _ => rfl) (fun γ w h => ex_igeq rfl rfl true rfl) rfl) ?_
    exact GSteps.nil
  intro _ w7 hb7 _ _
  refine th_r ?_
  have A8 := A5.keep hb7.out
  have HB9 := below_then HB6 hb7.out
  refine wp_cond_true rfl ?_
  refine wp_skip ?_
  refine th_r ?_
  refine wp_seq ?_
  refine wp_block ?_
  refine wp_seq (region_m (F := fun _ => ⟨#[nv 4 [k], .pointer (some ⟨(γ1 0), 0, none⟩), .int .i64 0, .int .i64 3, .int .i64 3, .bool true, undef, undef, .int .i64 3, .pointer (some ⟨(γ1 0), 3, none⟩), .int .u64 ((lb k 3 : Nat) : Int), .bool false, undef, undef, undef, undef, undef, undef, undef], []⟩) 0 (fun _ => 0) (fun _ => 0) (fun _ => 0) (fun _ => []) (fun _ => []) [8, 9, 10, 11] (.inr ⟨rfl, by kernel_rfl⟩) (by kernel_rfl) rfl rfl rfl ?_ ?_)
  · refine GSteps.cons (gm_val (v := .int .i64 3) rfl (fun _ => rfl) (fun _ => rfl) (fun γ w h => ex_move _) rfl) ?_
    refine GSteps.cons (gm_valg (fun γ => .pointer (some ⟨(γ1 0), 3, none⟩)) rfl (fun _ => rfl) (fun _ => rfl) (fun γ w h => ex_indexFr2 3 rfl rfl (by decide)) rfl) ?_
    refine GSteps.cons (gm_val (v := .int .u64 ((lb k 3 : Nat) : Int)) rfl (fun _ => rfl) (fun _ => rfl) (fun γ w h => ex_loadlimb (v := k) (o := 3) (K := 4) (A8.keep h.out) (by decide) rfl sgU64) rfl) ?_
    refine GSteps.cons (gm_val (v := .bool false) rfl (fun _ => rfl) (fun _ => rfl) (fun γ w h => ex_neqi rfl rfl false (by simp [h3])) rfl) ?_
    exact GSteps.nil
  intro _ w10 hb10 _ _
  refine th_r ?_
  have A11 := A8.keep hb10.out
  have HB12 := below_then HB9 hb10.out
  refine wp_cond_false rfl ?_
  refine wp_skip ?_
  refine bk_n ?_
  refine th_r ?_
  refine wp_region_lit ?_
  refine sq_val (a' := ⟨#[nv 4 [k], .pointer (some ⟨(γ1 0), 0, none⟩), .int .i64 0, .int .i64 3, .int .i64 3, .bool true, .int .i64 3, undef, .int .i64 3, .pointer (some ⟨(γ1 0), 3, none⟩), .int .u64 ((lb k 3 : Nat) : Int), .bool false, undef, undef, undef, undef, undef, undef, undef], []⟩) (v := .int .i64 3) rfl rfl (ex_move _) ?_
  refine sq_val (a' := ⟨#[nv 4 [k], .pointer (some ⟨(γ1 0), 0, none⟩), .int .i64 0, .int .i64 3, .int .i64 3, .bool true, .int .i64 3, .int .i64 2, .int .i64 3, .pointer (some ⟨(γ1 0), 3, none⟩), .int .u64 ((lb k 3 : Nat) : Int), .bool false, undef, undef, undef, undef, undef, undef, undef], []⟩) (v := .int .i64 2) rfl rfl (ex_isub rfl rfl 2 rfl) ?_
  refine sq_val (a' := ⟨#[nv 4 [k], .pointer (some ⟨(γ1 0), 0, none⟩), .int .i64 0, .int .i64 2, .int .i64 3, .bool true, .int .i64 3, .int .i64 2, .int .i64 3, .pointer (some ⟨(γ1 0), 3, none⟩), .int .u64 ((lb k 3 : Nat) : Int), .bool false, undef, undef, undef, undef, undef, undef, undef], []⟩) (v := .int .i64 2) rfl rfl (ex_assign _) ?_
  refine wpList_nil ?_
  refine th_r ?_
  rw [rounds_succ]
  refine wp_seq ?_
  refine wp_seq (region_m (F := fun _ => ⟨#[nv 4 [k], .pointer (some ⟨(γ1 0), 0, none⟩), .int .i64 0, .int .i64 2, .int .i64 2, .bool true, .int .i64 3, .int .i64 2, .int .i64 3, .pointer (some ⟨(γ1 0), 3, none⟩), .int .u64 ((lb k 3 : Nat) : Int), .bool false, undef, undef, undef, undef, undef, undef, undef], []⟩) 0 (fun _ => 0) (fun _ => 0) (fun _ => 0) (fun _ => []) (fun _ => []) [4, 5] (.inr ⟨rfl, by kernel_rfl⟩) (by kernel_rfl) rfl rfl rfl ?_ ?_)
  · refine GSteps.cons (gm_val (v := .int .i64 2) rfl (fun _ => rfl) (fun _ => rfl) (fun γ w h => ex_move _) rfl) ?_
    refine GSteps.cons (gm_val (v := .bool true) rfl (fun _ => rfl) (fun _ => rfl) (fun γ w h => ex_igeq rfl rfl true rfl) rfl) ?_
    exact GSteps.nil
  intro _ w13 hb13 _ _
  refine th_r ?_
  have A14 := A11.keep hb13.out
  have HB15 := below_then HB12 hb13.out
  refine wp_cond_true rfl ?_
  refine wp_skip ?_
  refine th_r ?_
  refine wp_seq ?_
  refine wp_block ?_
  refine wp_seq (region_m (F := fun _ => ⟨#[nv 4 [k], .pointer (some ⟨(γ1 0), 0, none⟩), .int .i64 0, .int .i64 2, .int .i64 2, .bool true, .int .i64 3, .int .i64 2, .int .i64 2, .pointer (some ⟨(γ1 0), 2, none⟩), .int .u64 ((lb k 2 : Nat) : Int), .bool false, undef, undef, undef, undef, undef, undef, undef], []⟩) 0 (fun _ => 0) (fun _ => 0) (fun _ => 0) (fun _ => []) (fun _ => []) [8, 9, 10, 11] (.inr ⟨rfl, by kernel_rfl⟩) (by kernel_rfl) rfl rfl rfl ?_ ?_)
  · refine GSteps.cons (gm_val (v := .int .i64 2) rfl (fun _ => rfl) (fun _ => rfl) (fun γ w h => ex_move _) rfl) ?_
    refine GSteps.cons (gm_valg (fun γ => .pointer (some ⟨(γ1 0), 2, none⟩)) rfl (fun _ => rfl) (fun _ => rfl) (fun γ w h => ex_indexFr2 2 rfl rfl (by decide)) rfl) ?_
    refine GSteps.cons (gm_val (v := .int .u64 ((lb k 2 : Nat) : Int)) rfl (fun _ => rfl) (fun _ => rfl) (fun γ w h => ex_loadlimb (v := k) (o := 2) (K := 4) (A14.keep h.out) (by decide) rfl sgU64) rfl) ?_
    refine GSteps.cons (gm_val (v := .bool false) rfl (fun _ => rfl) (fun _ => rfl) (fun γ w h => ex_neqi rfl rfl false (by simp [h2])) rfl) ?_
    exact GSteps.nil
  intro _ w16 hb16 _ _
  refine th_r ?_
  have A17 := A14.keep hb16.out
  have HB18 := below_then HB15 hb16.out
  refine wp_cond_false rfl ?_
  refine wp_skip ?_
  refine bk_n ?_
  refine th_r ?_
  refine wp_region_lit ?_
  refine sq_val (a' := ⟨#[nv 4 [k], .pointer (some ⟨(γ1 0), 0, none⟩), .int .i64 0, .int .i64 2, .int .i64 2, .bool true, .int .i64 2, .int .i64 2, .int .i64 2, .pointer (some ⟨(γ1 0), 2, none⟩), .int .u64 ((lb k 2 : Nat) : Int), .bool false, undef, undef, undef, undef, undef, undef, undef], []⟩) (v := .int .i64 2) rfl rfl (ex_move _) ?_
  refine sq_val (a' := ⟨#[nv 4 [k], .pointer (some ⟨(γ1 0), 0, none⟩), .int .i64 0, .int .i64 2, .int .i64 2, .bool true, .int .i64 2, .int .i64 1, .int .i64 2, .pointer (some ⟨(γ1 0), 2, none⟩), .int .u64 ((lb k 2 : Nat) : Int), .bool false, undef, undef, undef, undef, undef, undef, undef], []⟩) (v := .int .i64 1) rfl rfl (ex_isub rfl rfl 1 rfl) ?_
  refine sq_val (a' := ⟨#[nv 4 [k], .pointer (some ⟨(γ1 0), 0, none⟩), .int .i64 0, .int .i64 1, .int .i64 2, .bool true, .int .i64 2, .int .i64 1, .int .i64 2, .pointer (some ⟨(γ1 0), 2, none⟩), .int .u64 ((lb k 2 : Nat) : Int), .bool false, undef, undef, undef, undef, undef, undef, undef], []⟩) (v := .int .i64 1) rfl rfl (ex_assign _) ?_
  refine wpList_nil ?_
  refine th_r ?_
  rw [rounds_succ]
  refine wp_seq ?_
  refine wp_seq (region_m (F := fun _ => ⟨#[nv 4 [k], .pointer (some ⟨(γ1 0), 0, none⟩), .int .i64 0, .int .i64 1, .int .i64 1, .bool true, .int .i64 2, .int .i64 1, .int .i64 2, .pointer (some ⟨(γ1 0), 2, none⟩), .int .u64 ((lb k 2 : Nat) : Int), .bool false, undef, undef, undef, undef, undef, undef, undef], []⟩) 0 (fun _ => 0) (fun _ => 0) (fun _ => 0) (fun _ => []) (fun _ => []) [4, 5] (.inr ⟨rfl, by kernel_rfl⟩) (by kernel_rfl) rfl rfl rfl ?_ ?_)
  · refine GSteps.cons (gm_val (v := .int .i64 1) rfl (fun _ => rfl) (fun _ => rfl) (fun γ w h => ex_move _) rfl) ?_
    refine GSteps.cons (gm_val (v := .bool true) rfl (fun _ => rfl) (fun _ => rfl) (fun γ w h => ex_igeq rfl rfl true rfl) rfl) ?_
    exact GSteps.nil
  intro _ w19 hb19 _ _
  refine th_r ?_
  have A20 := A17.keep hb19.out
  have HB21 := below_then HB18 hb19.out
  refine wp_cond_true rfl ?_
  refine wp_skip ?_
  refine th_r ?_
  refine wp_seq ?_
  refine wp_block ?_
  refine wp_seq (region_m (F := fun _ => ⟨#[nv 4 [k], .pointer (some ⟨(γ1 0), 0, none⟩), .int .i64 0, .int .i64 1, .int .i64 1, .bool true, .int .i64 2, .int .i64 1, .int .i64 1, .pointer (some ⟨(γ1 0), 1, none⟩), .int .u64 ((lb k 1 : Nat) : Int), .bool false, undef, undef, undef, undef, undef, undef, undef], []⟩) 0 (fun _ => 0) (fun _ => 0) (fun _ => 0) (fun _ => []) (fun _ => []) [8, 9, 10, 11] (.inr ⟨rfl, by kernel_rfl⟩) (by kernel_rfl) rfl rfl rfl ?_ ?_)
  · refine GSteps.cons (gm_val (v := .int .i64 1) rfl (fun _ => rfl) (fun _ => rfl) (fun γ w h => ex_move _) rfl) ?_
    refine GSteps.cons (gm_valg (fun γ => .pointer (some ⟨(γ1 0), 1, none⟩)) rfl (fun _ => rfl) (fun _ => rfl) (fun γ w h => ex_indexFr2 1 rfl rfl (by decide)) rfl) ?_
    refine GSteps.cons (gm_val (v := .int .u64 ((lb k 1 : Nat) : Int)) rfl (fun _ => rfl) (fun _ => rfl) (fun γ w h => ex_loadlimb (v := k) (o := 1) (K := 4) (A20.keep h.out) (by decide) rfl sgU64) rfl) ?_
    refine GSteps.cons (gm_val (v := .bool false) rfl (fun _ => rfl) (fun _ => rfl) (fun γ w h => ex_neqi rfl rfl false (by simp [h1])) rfl) ?_
    exact GSteps.nil
  intro _ w22 hb22 _ _
  refine th_r ?_
  have A23 := A20.keep hb22.out
  have HB24 := below_then HB21 hb22.out
  refine wp_cond_false rfl ?_
  refine wp_skip ?_
  refine bk_n ?_
  refine th_r ?_
  refine wp_region_lit ?_
  refine sq_val (a' := ⟨#[nv 4 [k], .pointer (some ⟨(γ1 0), 0, none⟩), .int .i64 0, .int .i64 1, .int .i64 1, .bool true, .int .i64 1, .int .i64 1, .int .i64 1, .pointer (some ⟨(γ1 0), 1, none⟩), .int .u64 ((lb k 1 : Nat) : Int), .bool false, undef, undef, undef, undef, undef, undef, undef], []⟩) (v := .int .i64 1) rfl rfl (ex_move _) ?_
  refine sq_val (a' := ⟨#[nv 4 [k], .pointer (some ⟨(γ1 0), 0, none⟩), .int .i64 0, .int .i64 1, .int .i64 1, .bool true, .int .i64 1, .int .i64 0, .int .i64 1, .pointer (some ⟨(γ1 0), 1, none⟩), .int .u64 ((lb k 1 : Nat) : Int), .bool false, undef, undef, undef, undef, undef, undef, undef], []⟩) (v := .int .i64 0) rfl rfl (ex_isub rfl rfl 0 rfl) ?_
  refine sq_val (a' := ⟨#[nv 4 [k], .pointer (some ⟨(γ1 0), 0, none⟩), .int .i64 0, .int .i64 0, .int .i64 1, .bool true, .int .i64 1, .int .i64 0, .int .i64 1, .pointer (some ⟨(γ1 0), 1, none⟩), .int .u64 ((lb k 1 : Nat) : Int), .bool false, undef, undef, undef, undef, undef, undef, undef], []⟩) (v := .int .i64 0) rfl rfl (ex_assign _) ?_
  refine wpList_nil ?_
  refine th_r ?_
  rw [rounds_succ]
  refine wp_seq ?_
  refine wp_seq (region_m (F := fun _ => ⟨#[nv 4 [k], .pointer (some ⟨(γ1 0), 0, none⟩), .int .i64 0, .int .i64 0, .int .i64 0, .bool true, .int .i64 1, .int .i64 0, .int .i64 1, .pointer (some ⟨(γ1 0), 1, none⟩), .int .u64 ((lb k 1 : Nat) : Int), .bool false, undef, undef, undef, undef, undef, undef, undef], []⟩) 0 (fun _ => 0) (fun _ => 0) (fun _ => 0) (fun _ => []) (fun _ => []) [4, 5] (.inr ⟨rfl, by kernel_rfl⟩) (by kernel_rfl) rfl rfl rfl ?_ ?_)
  · refine GSteps.cons (gm_val (v := .int .i64 0) rfl (fun _ => rfl) (fun _ => rfl) (fun γ w h => ex_move _) rfl) ?_
    refine GSteps.cons (gm_val (v := .bool true) rfl (fun _ => rfl) (fun _ => rfl) (fun γ w h => ex_igeq rfl rfl true rfl) rfl) ?_
    exact GSteps.nil
  intro _ w25 hb25 _ _
  refine th_r ?_
  have A26 := A23.keep hb25.out
  have HB27 := below_then HB24 hb25.out
  refine wp_cond_true rfl ?_
  refine wp_skip ?_
  refine th_r ?_
  refine wp_seq ?_
  refine wp_block ?_
  refine wp_seq (region_m (F := fun _ => ⟨#[nv 4 [k], .pointer (some ⟨(γ1 0), 0, none⟩), .int .i64 0, .int .i64 0, .int .i64 0, .bool true, .int .i64 1, .int .i64 0, .int .i64 0, .pointer (some ⟨(γ1 0), 0, none⟩), .int .u64 ((lb k 0 : Nat) : Int), .bool true, undef, undef, undef, undef, undef, undef, undef], []⟩) 0 (fun _ => 0) (fun _ => 0) (fun _ => 0) (fun _ => []) (fun _ => []) [8, 9, 10, 11] (.inr ⟨rfl, by kernel_rfl⟩) (by kernel_rfl) rfl rfl rfl ?_ ?_)
  · refine GSteps.cons (gm_val (v := .int .i64 0) rfl (fun _ => rfl) (fun _ => rfl) (fun γ w h => ex_move _) rfl) ?_
    refine GSteps.cons (gm_valg (fun γ => .pointer (some ⟨(γ1 0), 0, none⟩)) rfl (fun _ => rfl) (fun _ => rfl) (fun γ w h => ex_indexFr2 0 rfl rfl (by decide)) rfl) ?_
    refine GSteps.cons (gm_val (v := .int .u64 ((lb k 0 : Nat) : Int)) rfl (fun _ => rfl) (fun _ => rfl) (fun γ w h => ex_loadlimb (v := k) (o := 0) (K := 4) (A26.keep h.out) (by decide) rfl sgU64) rfl) ?_
    refine GSteps.cons (gm_val (v := .bool true) rfl (fun _ => rfl) (fun _ => rfl) (fun γ w h => ex_neqi rfl rfl true (by simp [h0])) rfl) ?_
    exact GSteps.nil
  intro _ w28 hb28 _ _
  refine th_r ?_
  have A29 := A26.keep hb28.out
  have HB30 := below_then HB27 hb28.out
  refine wp_cond_true rfl ?_
  refine wp_seq (region_m (F := fun _ => ⟨#[nv 4 [k], .pointer (some ⟨(γ1 0), 0, none⟩), .int .i64 ((0 + nbits (lb k 0) : Nat) : Int), .int .i64 0, .int .i64 0, .bool true, .int .i64 1, .int .i64 0, .int .i64 0, .pointer (some ⟨(γ1 0), 0, none⟩), .int .u64 ((lb k 0 : Nat) : Int), .bool true, .int .i64 0, .int .i64 0, .int .i64 0, .pointer (some ⟨(γ1 0), 0, none⟩), .int .u64 ((lb k 0 : Nat) : Int), .int .i64 ((nbits (lb k 0) : Nat) : Int), .int .i64 ((0 + nbits (lb k 0) : Nat) : Int)], []⟩) 0 (fun _ => 0) (fun _ => 0) (fun _ => 0) (fun _ => []) (fun _ => []) [12, 13, 14, 15, 16, 17, 18, 2] (.inr ⟨rfl, by kernel_rfl⟩) (by kernel_rfl) rfl rfl rfl ?_ ?_)
  · refine GSteps.cons (gm_val (v := .int .i64 0) rfl (fun _ => rfl) (fun _ => rfl) (fun γ w h => ex_move _) rfl) ?_
    refine GSteps.cons (gm_val (v := .int .i64 0) rfl (fun _ => rfl) (fun _ => rfl) (fun γ w h => ex_imul rfl rfl 0 rfl) rfl) ?_
    refine GSteps.cons (gm_val (v := .int .i64 0) rfl (fun _ => rfl) (fun _ => rfl) (fun γ w h => ex_move _) rfl) ?_
    refine GSteps.cons (gm_valg (fun γ => .pointer (some ⟨(γ1 0), 0, none⟩)) rfl (fun _ => rfl) (fun _ => rfl) (fun γ w h => ex_indexFr2 0 rfl rfl (by decide)) rfl) ?_
    refine GSteps.cons (gm_val (v := .int .u64 ((lb k 0 : Nat) : Int)) rfl (fun _ => rfl) (fun _ => rfl) (fun γ w h => ex_loadlimb (v := k) (o := 0) (K := 4) (A29.keep h.out) (by decide) rfl sgU64) rfl) ?_
    refine GSteps.cons (gm_call (v := .int .i64 ((nbits (lb k 0) : Nat) : Int)) rfl (fun _ => rfl) (fun _ => rfl) (fun γ w => ex_call (vs := [.int .u64 ((lb k 0 : Nat) : Int)]) rfl Try.call65 rfl) (fun w h => len64_is _ _ (lb_lt k 0)) rfl) ?_
    refine GSteps.cons (gm_val (v := .int .i64 ((0 + nbits (lb k 0) : Nat) : Int)) rfl (fun _ => rfl) (fun _ => rfl) (fun γ w h => ex_iadd rfl rfl ((0 + nbits (lb k 0) : Nat) : Int) (by have := lb_nbits k 0; rw [wrapI64 (by omega) (by omega)]; omega)) rfl) ?_
    refine GSteps.cons (gm_val (v := .int .i64 ((0 + nbits (lb k 0) : Nat) : Int)) rfl (fun _ => rfl) (fun _ => rfl) (fun γ w h => ex_assign _) rfl) ?_
    exact GSteps.nil
  intro _ w31 hb31 _ _
  refine th_r ?_
  have A32 := A29.keep hb31.out
  have HB33 := below_then HB30 hb31.out
  exact wp_ret (bk_r (th_ret (th_ret (bk_r (th_ret (bodyPost_ret (ret1 Try.results52 (res_tmp rfl)) rfl ⟨rfl, HB33⟩))))))

set_option maxRecDepth 20000 in
set_option maxHeartbeats 4000000 in
theorem twolength_no (k : Nat) (h3 : lb k 3 = 0) (h2 : lb k 2 = 0) (h1 : lb k 1 = 0) (h0 : lb k 0 = 0) (w : World) :
    Calls Try.prog 52 #[nv 4 [k]] w (Is (.int .i64 0) w) := by
  go_enter Try.func52, Try.ntmps52
  refine wp_seq (region_m (F := fun γ => ⟨#[nv 4 [k], .pointer (some ⟨γ 0, 0, none⟩), .int .i64 0, undef, undef, undef, undef, undef, undef, undef, undef, undef, undef, undef, undef, undef, undef, undef, undef], []⟩) 1 (fun _ => 44) (fun _ => 0) (fun _ => 0) (fun _ => segs [.n 4 k]) (fun _ => segs [.n 4 k]) [1, 2] (.inr ⟨rfl, by kernel_rfl⟩) (by kernel_rfl) rfl rfl rfl ?_ ?_)
  · refine GSteps.cons (gm_box 0 rfl (fun _ => rfl) (fun _ _ => rfl) (fun γ w h => ex_boxsn (K := 4) (l := [k]) rfl) rfl rfl rfl) ?_
    refine GSteps.cons (gm_val (v := .int .i64 0) rfl (fun _ => rfl) (fun _ => rfl) (fun γ w h => ex_assign _) rfl) ?_
    exact GSteps.nil
  intro γ1 w1 hb1 hB1 _
  refine th_r ?_
  have A2 : SB 44 w1 (γ1 0) [.n 4 k] := (hB1 0 (by decide)).2
  have le2 := (hB1 0 (by decide)).1
  have HB3 := below_then (Below.refl w.heap.size w) hb1.out
  refine wp_seq ?_
  refine wp_seq (region_m (F := fun _ => ⟨#[nv 4 [k], .pointer (some ⟨(γ1 0), 0, none⟩), .int .i64 0, .int .i64 3, undef, undef, undef, undef, undef, undef, undef, undef, undef, undef, undef, undef, undef, undef, undef], []⟩) 0 (fun _ => 0) (fun _ => 0) (fun _ => 0) (fun _ => []) (fun _ => []) [3] (.inr ⟨rfl, by kernel_rfl⟩) (by kernel_rfl) rfl rfl rfl ?_ ?_)
  · refine GSteps.cons (gm_val (v := .int .i64 3) rfl (fun _ => rfl) (fun _ => rfl) (fun γ w h => ex_assign _) rfl) ?_
    exact GSteps.nil
  intro _ w4 hb4 _ _
  refine th_r ?_
  have A5 := A2.keep hb4.out
  have HB6 := below_then HB3 hb4.out
  refine wp_block ?_
  refine wp_loop_rounds 6 ?_
  rw [rounds_succ]
  refine wp_seq ?_
  refine wp_seq (region_m (F := fun _ => ⟨#[nv 4 [k], .pointer (some ⟨(γ1 0), 0, none⟩), .int .i64 0, .int .i64 3, .int .i64 3, .bool true, undef, undef, undef, undef, undef, undef, undef, undef, undef, undef, undef, undef, undef], []⟩) 0 (fun _ => 0) (fun _ => 0) (fun _ => 0) (fun _ => []) (fun _ => []) [4, 5] (.inr ⟨rfl, by kernel_rfl⟩) (by kernel_rfl) rfl rfl rfl ?_ ?_)
  · refine GSteps.cons (gm_val (v := .int .i64 3) rfl (fun _ => rfl) (fun _ => rfl) (fun γ w h => ex_move _) rfl) ?_
    refine GSteps.cons (gm_val (v := .bool true) rfl (fun _ => rfl) (fun _ => rfl) (fun γ w h => ex_igeq rfl rfl true rfl) rfl) ?_
    exact GSteps.nil
  intro _ w7 hb7 _ _
  refine th_r ?_
  have A8 := A5.keep hb7.out
  have HB9 := below_then HB6 hb7.out
  refine wp_cond_true rfl ?_
  refine wp_skip ?_
  refine th_r ?_
  refine wp_seq ?_
  refine wp_block ?_
  refine wp_seq (region_m (F := fun _ => ⟨#[nv 4 [k], .pointer (some ⟨(γ1 0), 0, none⟩), .int .i64 0, .int .i64 3, .int .i64 3, .bool true, undef, undef, .int .i64 3, .pointer (some ⟨(γ1 0), 3, none⟩), .int .u64 ((lb k 3 : Nat) : Int), .bool false, undef, undef, undef, undef, undef, undef, undef], []⟩) 0 (fun _ => 0) (fun _ => 0) (fun _ => 0) (fun _ => []) (fun _ => []) [8, 9, 10, 11] (.inr ⟨rfl, by kernel_rfl⟩) (by kernel_rfl) rfl rfl rfl ?_ ?_)
  · refine GSteps.cons (gm_val (v := .int .i64 3) rfl (fun _ => rfl) (fun _ => rfl) (fun γ w h => ex_move _) rfl) ?_
    refine GSteps.cons (gm_valg (fun γ => .pointer (some ⟨(γ1 0), 3, none⟩)) rfl (fun _ => rfl) (fun _ => rfl) (fun γ w h => ex_indexFr2 3 rfl rfl (by decide)) rfl) ?_
    refine GSteps.cons (gm_val (v := .int .u64 ((lb k 3 : Nat) : Int)) rfl (fun _ => rfl) (fun _ => rfl) (fun γ w h => ex_loadlimb (v := k) (o := 3) (K := 4) (A8.keep h.out) (by decide) rfl sgU64) rfl) ?_
    refine GSteps.cons (gm_val (v := .bool false) rfl (fun _ => rfl) (fun _ => rfl) (fun γ w h => ex_neqi rfl rfl false (by simp [h3])) rfl) ?_
    exact GSteps.nil
  intro _ w10 hb10 _ _
  refine th_r ?_
  have A11 := A8.keep hb10.out
  have HB12 := below_then HB9 hb10.out
  refine wp_cond_false rfl ?_
  refine wp_skip ?_
  refine bk_n ?_
  refine th_r ?_
  refine wp_region_lit ?_
  refine sq_val (a' := ⟨#[nv 4 [k], .pointer (some ⟨(γ1 0), 0, none⟩), .int .i64 0, .int .i64 3, .int .i64 3, .bool true, .int .i64 3, undef, .int .i64 3, .pointer (some ⟨(γ1 0), 3, none⟩), .int .u64 ((lb k 3 : Nat) : Int), .bool false, undef, undef, undef, undef, undef, undef, undef], []⟩) (v := .int .i64 3) rfl rfl (ex_move _) ?_
  refine sq_val (a' := ⟨#[nv 4 [k], .pointer (some ⟨(γ1 0), 0, none⟩), .int .i64 0, .int .i64 3, .int .i64 3, .bool true, .int .i64 3, .int .i64 2, .int .i64 3, .pointer (some ⟨(γ1 0), 3, none⟩), .int .u64 ((lb k 3 : Nat) : Int), .bool false, undef, undef, undef, undef, undef, undef, undef], []⟩) (v := .int .i64 2) rfl rfl (ex_isub rfl rfl 2 rfl) ?_
  refine sq_val (a' := ⟨#[nv 4 [k], .pointer (some ⟨(γ1 0), 0, none⟩), .int .i64 0, .int .i64 2, .int .i64 3, .bool true, .int .i64 3, .int .i64 2, .int .i64 3, .pointer (some ⟨(γ1 0), 3, none⟩), .int .u64 ((lb k 3 : Nat) : Int), .bool false, undef, undef, undef, undef, undef, undef, undef], []⟩) (v := .int .i64 2) rfl rfl (ex_assign _) ?_
  refine wpList_nil ?_
  refine th_r ?_
  rw [rounds_succ]
  refine wp_seq ?_
  refine wp_seq (region_m (F := fun _ => ⟨#[nv 4 [k], .pointer (some ⟨(γ1 0), 0, none⟩), .int .i64 0, .int .i64 2, .int .i64 2, .bool true, .int .i64 3, .int .i64 2, .int .i64 3, .pointer (some ⟨(γ1 0), 3, none⟩), .int .u64 ((lb k 3 : Nat) : Int), .bool false, undef, undef, undef, undef, undef, undef, undef], []⟩) 0 (fun _ => 0) (fun _ => 0) (fun _ => 0) (fun _ => []) (fun _ => []) [4, 5] (.inr ⟨rfl, by kernel_rfl⟩) (by kernel_rfl) rfl rfl rfl ?_ ?_)
  · refine GSteps.cons (gm_val (v := .int .i64 2) rfl (fun _ => rfl) (fun _ => rfl) (fun γ w h => ex_move _) rfl) ?_
    refine GSteps.cons (gm_val (v := .bool true) rfl (fun _ => rfl) (fun _ => rfl) (fun γ w h => ex_igeq rfl rfl true rfl) rfl) ?_
    exact GSteps.nil
  intro _ w13 hb13 _ _
  refine th_r ?_
  have A14 := A11.keep hb13.out
  have HB15 := below_then HB12 hb13.out
  refine wp_cond_true rfl ?_
  refine wp_skip ?_
  refine th_r ?_
  refine wp_seq ?_
  refine wp_block ?_
  refine wp_seq (region_m (F := fun _ => ⟨#[nv 4 [k], .pointer (some ⟨(γ1 0), 0, none⟩), .int .i64 0, .int .i64 2, .int .i64 2, .bool true, .int .i64 3, .int .i64 2, .int .i64 2, .pointer (some ⟨(γ1 0), 2, none⟩), .int .u64 ((lb k 2 : Nat) : Int), .bool false, undef, undef, undef, undef, undef, undef, undef], []⟩) 0 (fun _ => 0) (fun _ => 0) (fun _ => 0) (fun _ => []) (fun _ => []) [8, 9, 10, 11] (.inr ⟨rfl, by kernel_rfl⟩) (by kernel_rfl) rfl rfl rfl ?_ ?_)
  · refine GSteps.cons (gm_val (v := .int .i64 2) rfl (fun _ => rfl) (fun _ => rfl) (fun γ w h => ex_move _) rfl) ?_
    refine GSteps.cons (gm_valg (fun γ => .pointer (some ⟨(γ1 0), 2, none⟩)) rfl (fun _ => rfl) (fun _ => rfl) (fun γ w h => ex_indexFr2 2 rfl rfl (by decide)) rfl) ?_
    refine GSteps.cons (gm_val (v := .int .u64 ((lb k 2 : Nat) : Int)) rfl (fun _ => rfl) (fun _ => rfl) (fun γ w h => ex_loadlimb (v := k) (o := 2) (K := 4) (A14.keep h.out) (by decide) rfl sgU64) rfl) ?_
    refine GSteps.cons (gm_val (v := .bool false) rfl (fun _ => rfl) (fun _ => rfl) (fun γ w h => ex_neqi rfl rfl false (by simp [h2])) rfl) ?_
    exact GSteps.nil
  intro _ w16 hb16 _ _
  refine th_r ?_
  have A17 := A14.keep hb16.out
  have HB18 := below_then HB15 hb16.out
  refine wp_cond_false rfl ?_
  refine wp_skip ?_
  refine bk_n ?_
  refine th_r ?_
  refine wp_region_lit ?_
  refine sq_val (a' := ⟨#[nv 4 [k], .pointer (some ⟨(γ1 0), 0, none⟩), .int .i64 0, .int .i64 2, .int .i64 2, .bool true, .int .i64 2, .int .i64 2, .int .i64 2, .pointer (some ⟨(γ1 0), 2, none⟩), .int .u64 ((lb k 2 : Nat) : Int), .bool false, undef, undef, undef, undef, undef, undef, undef], []⟩) (v := .int .i64 2) rfl rfl (ex_move _) ?_
  refine sq_val (a' := ⟨#[nv 4 [k], .pointer (some ⟨(γ1 0), 0, none⟩), .int .i64 0, .int .i64 2, .int .i64 2, .bool true, .int .i64 2, .int .i64 1, .int .i64 2, .pointer (some ⟨(γ1 0), 2, none⟩), .int .u64 ((lb k 2 : Nat) : Int), .bool false, undef, undef, undef, undef, undef, undef, undef], []⟩) (v := .int .i64 1) rfl rfl (ex_isub rfl rfl 1 rfl) ?_
  refine sq_val (a' := ⟨#[nv 4 [k], .pointer (some ⟨(γ1 0), 0, none⟩), .int .i64 0, .int .i64 1, .int .i64 2, .bool true, .int .i64 2, .int .i64 1, .int .i64 2, .pointer (some ⟨(γ1 0), 2, none⟩), .int .u64 ((lb k 2 : Nat) : Int), .bool false, undef, undef, undef, undef, undef, undef, undef], []⟩) (v := .int .i64 1) rfl rfl (ex_assign _) ?_
  refine wpList_nil ?_
  refine th_r ?_
  rw [rounds_succ]
  refine wp_seq ?_
  refine wp_seq (region_m (F := fun _ => ⟨#[nv 4 [k], .pointer (some ⟨(γ1 0), 0, none⟩), .int .i64 0, .int .i64 1, .int .i64 1, .bool true, .int .i64 2, .int .i64 1, .int .i64 2, .pointer (some ⟨(γ1 0), 2, none⟩), .int .u64 ((lb k 2 : Nat) : Int), .bool false, undef, undef, undef, undef, undef, undef, undef], []⟩) 0 (fun _ => 0) (fun _ => 0) (fun _ => 0) (fun _ => []) (fun _ => []) [4, 5] (.inr ⟨rfl, by kernel_rfl⟩) (by kernel_rfl) rfl rfl rfl ?_ ?_)
  · refine GSteps.cons (gm_val (v := .int .i64 1) rfl (fun _ => rfl) (fun _ => rfl) (fun γ w h => ex_move _) rfl) ?_
    refine GSteps.cons (gm_val (v := .bool true) rfl (fun _ => rfl) (fun _ => rfl) (fun γ w h => ex_igeq rfl rfl true rfl) rfl) ?_
    exact GSteps.nil
  intro _ w19 hb19 _ _
  refine th_r ?_
  have A20 := A17.keep hb19.out
  have HB21 := below_then HB18 hb19.out
  refine wp_cond_true rfl ?_
  refine wp_skip ?_
  refine th_r ?_
  refine wp_seq ?_
  refine wp_block ?_
  refine wp_seq (region_m (F := fun _ => ⟨#[nv 4 [k], .pointer (some ⟨(γ1 0), 0, none⟩), .int .i64 0, .int .i64 1, .int .i64 1, .bool true, .int .i64 2, .int .i64 1, .int .i64 1, .pointer (some ⟨(γ1 0), 1, none⟩), .int .u64 ((lb k 1 : Nat) : Int), .bool false, undef, undef, undef, undef, undef, undef, undef], []⟩) 0 (fun _ => 0) (fun _ => 0) (fun _ => 0) (fun _ => []) (fun _ => []) [8, 9, 10, 11] (.inr ⟨rfl, by kernel_rfl⟩) (by kernel_rfl) rfl rfl rfl ?_ ?_)
  · refine GSteps.cons (gm_val (v := .int .i64 1) rfl (fun _ => rfl) (fun _ => rfl) (fun γ w h => ex_move _) rfl) ?_
    refine GSteps.cons (gm_valg (fun γ => .pointer (some ⟨(γ1 0), 1, none⟩)) rfl (fun _ => rfl) (fun _ => rfl) (fun γ w h => ex_indexFr2 1 rfl rfl (by decide)) rfl) ?_
    refine GSteps.cons (gm_val (v := .int .u64 ((lb k 1 : Nat) : Int)) rfl (fun _ => rfl) (fun _ => rfl) (fun γ w h => ex_loadlimb (v := k) (o := 1) (K := 4) (A20.keep h.out) (by decide) rfl sgU64) rfl) ?_
    refine GSteps.cons (gm_val (v := .bool false) rfl (fun _ => rfl) (fun _ => rfl) (fun γ w h => ex_neqi rfl rfl false (by simp [h1])) rfl) ?_
    exact GSteps.nil
  intro _ w22 hb22 _ _
  refine th_r ?_
  have A23 := A20.keep hb22.out
  have HB24 := below_then HB21 hb22.out
  refine wp_cond_false rfl ?_
  refine wp_skip ?_
  refine bk_n ?_
  refine th_r ?_
  refine wp_region_lit ?_
  refine sq_val (a' := ⟨#[nv 4 [k], .pointer (some ⟨(γ1 0), 0, none⟩), .int .i64 0, .int .i64 1, .int .i64 1, .bool true, .int .i64 1, .int .i64 1, .int .i64 1, .pointer (some ⟨(γ1 0), 1, none⟩), .int .u64 ((lb k 1 : Nat) : Int), .bool false, undef, undef, undef, undef, undef, undef, undef], []⟩) (v := .int .i64 1) rfl rfl (ex_move _) ?_
  refine sq_val (a' := ⟨#[nv 4 [k], .pointer (some ⟨(γ1 0), 0, none⟩), .int .i64 0, .int .i64 1, .int .i64 1, .bool true, .int .i64 1, .int .i64 0, .int .i64 1, .pointer (some ⟨(γ1 0), 1, none⟩), .int .u64 ((lb k 1 : Nat) : Int), .bool false, undef, undef, undef, undef, undef, undef, undef], []⟩) (v := .int .i64 0) rfl rfl (ex_isub rfl rfl 0 rfl) ?_
  refine sq_val (a' := ⟨#[nv 4 [k], .pointer (some ⟨(γ1 0), 0, none⟩), .int .i64 0, .int .i64 0, .int .i64 1, .bool true, .int .i64 1, .int .i64 0, .int .i64 1, .pointer (some ⟨(γ1 0), 1, none⟩), .int .u64 ((lb k 1 : Nat) : Int), .bool false, undef, undef, undef, undef, undef, undef, undef], []⟩) (v := .int .i64 0) rfl rfl (ex_assign _) ?_
  refine wpList_nil ?_
  refine th_r ?_
  rw [rounds_succ]
  refine wp_seq ?_
  refine wp_seq (region_m (F := fun _ => ⟨#[nv 4 [k], .pointer (some ⟨(γ1 0), 0, none⟩), .int .i64 0, .int .i64 0, .int .i64 0, .bool true, .int .i64 1, .int .i64 0, .int .i64 1, .pointer (some ⟨(γ1 0), 1, none⟩), .int .u64 ((lb k 1 : Nat) : Int), .bool false, undef, undef, undef, undef, undef, undef, undef], []⟩) 0 (fun _ => 0) (fun _ => 0) (fun _ => 0) (fun _ => []) (fun _ => []) [4, 5] (.inr ⟨rfl, by kernel_rfl⟩) (by kernel_rfl) rfl rfl rfl ?_ ?_)
  · refine GSteps.cons (gm_val (v := .int .i64 0) rfl (fun _ => rfl) (fun _ => rfl) (fun γ w h => ex_move _) rfl) ?_
    refine GSteps.cons (gm_val (v := .bool true) rfl (fun _ => rfl) (fun _ => rfl) (fun γ w h => ex_igeq rfl rfl true rfl) rfl) ?_
    exact GSteps.nil
  intro _ w25 hb25 _ _
  refine th_r ?_
  have A26 := A23.keep hb25.out
  have HB27 := below_then HB24 hb25.out
  refine wp_cond_true rfl ?_
  refine wp_skip ?_
  refine th_r ?_
  refine wp_seq ?_
  refine wp_block ?_
  refine wp_seq (region_m (F := fun _ => ⟨#[nv 4 [k], .pointer (some ⟨(γ1 0), 0, none⟩), .int .i64 0, .int .i64 0, .int .i64 0, .bool true, .int .i64 1, .int .i64 0, .int .i64 0, .pointer (some ⟨(γ1 0), 0, none⟩), .int .u64 ((lb k 0 : Nat) : Int), .bool false, undef, undef, undef, undef, undef, undef, undef], []⟩) 0 (fun _ => 0) (fun _ => 0) (fun _ => 0) (fun _ => []) (fun _ => []) [8, 9, 10, 11] (.inr ⟨rfl, by kernel_rfl⟩) (by kernel_rfl) rfl rfl rfl ?_ ?_)
  · refine GSteps.cons (gm_val (v := .int .i64 0) rfl (fun _ => rfl) (fun _ => rfl) (fun γ w h => ex_move _) rfl) ?_
    refine GSteps.cons (gm_valg (fun γ => .pointer (some ⟨(γ1 0), 0, none⟩)) rfl (fun _ => rfl) (fun _ => rfl) (fun γ w h => ex_indexFr2 0 rfl rfl (by decide)) rfl) ?_
    refine GSteps.cons (gm_val (v := .int .u64 ((lb k 0 : Nat) : Int)) rfl (fun _ => rfl) (fun _ => rfl) (fun γ w h => ex_loadlimb (v := k) (o := 0) (K := 4) (A26.keep h.out) (by decide) rfl sgU64) rfl) ?_
    refine GSteps.cons (gm_val (v := .bool false) rfl (fun _ => rfl) (fun _ => rfl) (fun γ w h => ex_neqi rfl rfl false (by simp [h0])) rfl) ?_
    exact GSteps.nil
  intro _ w28 hb28 _ _
  refine th_r ?_
  have A29 := A26.keep hb28.out
  have HB30 := below_then HB27 hb28.out
  refine wp_cond_false rfl ?_
  refine wp_skip ?_
  refine bk_n ?_
  refine th_r ?_
  refine wp_region_lit ?_
  refine sq_val (a' := ⟨#[nv 4 [k], .pointer (some ⟨(γ1 0), 0, none⟩), .int .i64 0, .int .i64 0, .int .i64 0, .bool true, .int .i64 0, .int .i64 0, .int .i64 0, .pointer (some ⟨(γ1 0), 0, none⟩), .int .u64 ((lb k 0 : Nat) : Int), .bool false, undef, undef, undef, undef, undef, undef, undef], []⟩) (v := .int .i64 0) rfl rfl (ex_move _) ?_
  refine sq_val (a' := ⟨#[nv 4 [k], .pointer (some ⟨(γ1 0), 0, none⟩), .int .i64 0, .int .i64 0, .int .i64 0, .bool true, .int .i64 0, .int .i64 (-1), .int .i64 0, .pointer (some ⟨(γ1 0), 0, none⟩), .int .u64 ((lb k 0 : Nat) : Int), .bool false, undef, undef, undef, undef, undef, undef, undef], []⟩) (v := .int .i64 (-1)) rfl rfl (ex_isub rfl rfl (-1) rfl) ?_
  refine sq_val (a' := ⟨#[nv 4 [k], .pointer (some ⟨(γ1 0), 0, none⟩), .int .i64 0, .int .i64 (-1), .int .i64 0, .bool true, .int .i64 0, .int .i64 (-1), .int .i64 0, .pointer (some ⟨(γ1 0), 0, none⟩), .int .u64 ((lb k 0 : Nat) : Int), .bool false, undef, undef, undef, undef, undef, undef, undef], []⟩) (v := .int .i64 (-1)) rfl rfl (ex_assign _) ?_
  refine wpList_nil ?_
  refine th_r ?_
  rw [rounds_succ]
  refine wp_seq ?_
  refine wp_seq (region_m (F := fun _ => ⟨#[nv 4 [k], .pointer (some ⟨(γ1 0), 0, none⟩), .int .i64 0, .int .i64 (-1), .int .i64 (-1), .bool false, .int .i64 0, .int .i64 (-1), .int .i64 0, .pointer (some ⟨(γ1 0), 0, none⟩), .int .u64 ((lb k 0 : Nat) : Int), .bool false, undef, undef, undef, undef, undef, undef, undef], []⟩) 0 (fun _ => 0) (fun _ => 0) (fun _ => 0) (fun _ => []) (fun _ => []) [4, 5] (.inr ⟨rfl, by kernel_rfl⟩) (by kernel_rfl) rfl rfl rfl ?_ ?_)
  · refine GSteps.cons (gm_val (v := .int .i64 (-1)) rfl (fun _ => rfl) (fun _ => rfl) (fun γ w h => ex_move _) rfl) ?_
    refine GSteps.cons (gm_val (v := .bool false) rfl (fun _ => rfl) (fun _ => rfl) (fun γ w h => ex_igeq rfl rfl false rfl) rfl) ?_
    exact GSteps.nil
  intro _ w31 hb31 _ _
  refine th_r ?_
  have A32 := A29.keep hb31.out
  have HB33 := below_then HB30 hb31.out
  refine wp_cond_false rfl ?_
  refine wp_exit (th_e (th_e (bk_e ?_)))
  refine th_r ?_
  refine wp_seq (region_m (F := fun _ => ⟨#[nv 4 [k], .pointer (some ⟨(γ1 0), 0, none⟩), .int .i64 0, .int .i64 (-1), .int .i64 (-1), .bool false, .int .i64 0, .int .i64 (-1), .int .i64 0, .pointer (some ⟨(γ1 0), 0, none⟩), .int .u64 ((lb k 0 : Nat) : Int), .bool false, undef, undef, undef, undef, undef, undef, undef], []⟩) 0 (fun _ => 0) (fun _ => 0) (fun _ => 0) (fun _ => []) (fun _ => []) [2] (.inr ⟨rfl, by kernel_rfl⟩) (by kernel_rfl) rfl rfl rfl ?_ ?_)
  · refine GSteps.cons (gm_val (v := .int .i64 0) rfl (fun _ => rfl) (fun _ => rfl) (fun γ w h => ex_assign _) rfl) ?_
    exact GSteps.nil
  intro _ w34 hb34 _ _
  refine th_r ?_
  have A35 := A32.keep hb34.out
  have HB36 := below_then HB33 hb34.out
  exact wp_ret (bodyPost_ret (ret1 Try.results52 (res_tmp rfl)) rfl ⟨rfl, HB36⟩)

theorem twolength_q {k : Nat} (hk : k < frB) : ∃ L : Nat, L ≤ 256 ∧ k < 2 ^ L ∧ ∀ w, Calls Try.prog 52 #[nv 4 [k]] w (Is (.int .i64 ((L : Nat) : Int)) w) := by
  have b3 : k < 2 ^ (64 * (3 + 1)) := Nat.lt_of_lt_of_eq hk frB_eq
  by_cases h3 : lb k 3 = 0
  · have b2 := lb_top_zero b3 h3
    by_cases h2 : lb k 2 = 0
    · have b1 := lb_top_zero b2 h2
      by_cases h1 : lb k 1 = 0
      · have b0 := lb_top_zero b1 h1
        by_cases h0 : lb k 0 = 0
        · have bn := lb_top_zero b0 h0
          exact ⟨0, by decide, bn, fun w => twolength_no k h3 h2 h1 h0 w⟩
        · have l0 := lb_nbits k 0
          exact ⟨0 + nbits (lb k 0), by omega, lb_top_lt b0, fun w => twolength_0 k h3 h2 h1 h0 w⟩
      · have l1 := lb_nbits k 1
        exact ⟨64 + nbits (lb k 1), by omega, lb_top_lt b1, fun w => twolength_1 k h3 h2 h1 w⟩
    · have l2 := lb_nbits k 2
      exact ⟨128 + nbits (lb k 2), by omega, lb_top_lt b2, fun w => twolength_2 k h3 h2 w⟩
  · have l3 := lb_nbits k 3
    exact ⟨192 + nbits (lb k 3), by omega, lb_top_lt b3, fun w => twolength_3 k h3 w⟩

/-- How the sum goes on, from the highest bit down. -/
def twoT (s : Tri Zq) (k L : Nat) : Nat → Tri Zq
  | 0 => ⟨0, 1, 0⟩
  | j + 1 => if k / 2 ^ (L - (j + 1)) % 2 = 1 then plusT b6 (twiceT b6 (twoT s k L j)) s else twiceT b6 (twoT s k L j)
theorem twoT_is {s : Tri Zq} {P : E2} (hs : s.Is P.pt) {k L : Nat} (hk : k < 2 ^ L) : ∀ j, j ≤ L → (twoT s k L j).Is (EP.times C2 (k / 2 ^ (L - j)) P).pt
  | 0, _ => by
    rw [Nat.sub_zero, Nat.div_eq_of_lt hk]
    exact ⟨rfl, rfl, one_ne FdQ⟩
  | j + 1, hj => by
    have ih := twoT_is hs hk j (by omega)
    have e : L - j = L - (j + 1) + 1 := by omega
    rw [e, Nat.pow_succ, ← Nat.div_div_eq_div_mul] at ih
    unfold twoT
    generalize k / 2 ^ (L - (j + 1)) = m at ih ⊢
    generalize twoT s k L j = u at ih ⊢
    have h2 : (twiceT b6 u).Is (EP.times C2 (m / 2 + m / 2) P).pt := by
      rw [EP.times_add, b6_is]
      exact twice_ok FdQ hN2 (EP.on _) ih (EP.sum C2 _ _)
    split
    · next h1 =>
      have em : m / 2 + m / 2 + 1 = m := by omega
      rw [← em]
      show Tri.Is _ ((EP.times C2 (m / 2 + m / 2) P).add C2 P).pt
      generalize twiceT b6 u = v at h2 ⊢
      rw [b6_is]
      exact plus_ok FdQ hN2 (EP.on _) P.on h2 hs (EP.sum C2 _ _)
    · next h1 =>
      rw [show m / 2 + m / 2 = m by omega] at h2
      exact h2

set_option maxRecDepth 20000 in
set_option maxHeartbeats 4000000 in
theorem twotimes_v (s : Tri Zq) (k L : Nat) (hL256 : L ≤ 256) (hL : ∀ w, Calls Try.prog 52 #[nv 4 [k]] w (Is (.int .i64 ((L : Nat) : Int)) w)) (w : World) :
    Calls Try.prog 32 #[sv [.n 6 s.x.re.val, .n 6 s.x.im.val, .n 6 s.y.re.val, .n 6 s.y.im.val, .n 6 s.z.re.val, .n 6 s.z.im.val], nv 4 [k]] w (Is (sv [.n 6 (((twoT s k L L).x).re.val), .n 6 (((twoT s k L L).x).im.val), .n 6 (((twoT s k L L).y).re.val), .n 6 (((twoT s k L L).y).im.val), .n 6 (((twoT s k L L).z).re.val), .n 6 (((twoT s k L L).z).im.val)]) w) := by
  obtain ⟨T, hT⟩ : ∃ T, T = twoT s k L := ⟨_, rfl⟩
  obtain ⟨U, hU⟩ : ∃ U : Nat → Tri Zq, ∀ j, U j = twiceT b6 (T j) := ⟨_, fun _ => rfl⟩
  obtain ⟨V, hV⟩ : ∃ V : Nat → Tri Zq, ∀ j, V j = plusT b6 (U j) s := ⟨_, fun _ => rfl⟩
  have hS0 : ∀ j, k / 2 ^ (L - (j + 1)) % 2 = 0 → T (j + 1) = U j := fun j h => by
    rw [hU, hT]
    show (if _ then _ else _) = _
    rw [if_neg (by omega)]
  have hS1 : ∀ j, k / 2 ^ (L - (j + 1)) % 2 = 1 → T (j + 1) = V j := fun j h => by
    rw [hV, hU, hT]
    show (if _ then _ else _) = _
    rw [if_pos h]
  have hT0 : ∀ w, Calls Try.prog 50 #[] w (Is (sv [.n 6 (((T 0).x).re.val), .n 6 (((T 0).x).im.val), .n 6 (((T 0).y).re.val), .n 6 (((T 0).y).im.val), .n 6 (((T 0).z).re.val), .n 6 (((T 0).z).im.val)]) w) := fun w => by
    have h := twonowhere_v w
    rw [twonowhere_t] at h
    rw [hT]
    exact h
  rw [← hT]
  go_enter Try.func32, Try.ntmps32
  refine wp_seq (region_m (F := fun γ => ⟨#[sv [.n 6 s.x.re.val, .n 6 s.x.im.val, .n 6 s.y.re.val, .n 6 s.y.im.val, .n 6 s.z.re.val, .n 6 s.z.im.val], nv 4 [k], .pointer (some ⟨γ 0, 0, none⟩), .pointer (some ⟨γ 1, 0, none⟩), .pointer (some ⟨γ 2, 0, none⟩), undef, undef, undef, undef, undef, undef, undef, undef, undef, undef, undef, undef, undef, undef, undef, undef, undef, undef, undef, undef, undef, undef, undef, undef, undef], []⟩) 3 (fun j_ => match j_ with | 0 => 51 | 1 => 44 | _ => 51) (fun j_ => match j_ with | 0 => 0 | 1 => 1 | _ => 2) (fun j_ => match j_ with | 0 => 0 | 1 => 1 | _ => 2) (fun j_ => match j_ with | 0 => segs [.n 6 s.x.re.val, .n 6 s.x.im.val, .n 6 s.y.re.val, .n 6 s.y.im.val, .n 6 s.z.re.val, .n 6 s.z.im.val] | 1 => segs [.n 4 k] | _ => segs [.n 6 0, .n 6 0, .n 6 0, .n 6 0, .n 6 0, .n 6 0]) (fun j_ => match j_ with | 0 => segs [.n 6 s.x.re.val, .n 6 s.x.im.val, .n 6 s.y.re.val, .n 6 s.y.im.val, .n 6 s.z.re.val, .n 6 s.z.im.val] | 1 => segs [.n 4 k] | _ => segs [.n 6 0, .n 6 0, .n 6 0, .n 6 0, .n 6 0, .n 6 0]) [2, 3, 4] (.inr ⟨rfl, by kernel_rfl⟩) (by kernel_rfl) rfl rfl rfl ?_ ?_)
  · refine GSteps.cons (gm_box 0 rfl (fun _ => rfl) (fun _ _ => rfl) (fun γ w h => ex_boxs (l := [.n 6 s.x.re.val, .n 6 s.x.im.val, .n 6 s.y.re.val, .n 6 s.y.im.val, .n 6 s.z.re.val, .n 6 s.z.im.val]) rfl) rfl rfl rfl) ?_
    refine GSteps.cons (gm_box 1 rfl (fun _ => rfl) (fun _ _ => rfl) (fun γ w h => ex_boxsn (K := 4) (l := [k]) rfl) rfl rfl rfl) ?_
    refine GSteps.cons (gm_box 2 rfl (fun _ => rfl) (fun _ _ => rfl) (fun γ w h => ex_allocs (l := [.n 6 0, .n 6 0, .n 6 0, .n 6 0, .n 6 0, .n 6 0]) zPG2) rfl rfl rfl) ?_
    exact GSteps.nil
  intro γ1 w1 hb1 hB1 hn1
  refine th_r ?_
  have A2 : SB 51 w1 (γ1 0) [.n 6 s.x.re.val, .n 6 s.x.im.val, .n 6 s.y.re.val, .n 6 s.y.im.val, .n 6 s.z.re.val, .n 6 s.z.im.val] := (hB1 0 (by decide)).2
  have le2 := (hB1 0 (by decide)).1
  have A3 : SB 44 w1 (γ1 1) [.n 4 k] := (hB1 1 (by decide)).2
  have le3 := (hB1 1 (by decide)).1
  have A4 : SB 51 w1 (γ1 2) [.n 6 0, .n 6 0, .n 6 0, .n 6 0, .n 6 0, .n 6 0] := (hB1 2 (by decide)).2
  have le4 := (hB1 2 (by decide)).1
  have HB5 := below_then (Below.refl w.heap.size w) hb1.out
  refine wp_seq (region_m (F := fun γ => ⟨#[sv [.n 6 s.x.re.val, .n 6 s.x.im.val, .n 6 s.y.re.val, .n 6 s.y.im.val, .n 6 s.z.re.val, .n 6 s.z.im.val], nv 4 [k], .pointer (some ⟨(γ1 0), 0, none⟩), .pointer (some ⟨(γ1 1), 0, none⟩), .pointer (some ⟨(γ1 2), 0, none⟩), .pointer (some ⟨γ 0, 0, none⟩), undef, sv [.n 6 (((T 0).x).re.val), .n 6 (((T 0).x).im.val), .n 6 (((T 0).y).re.val), .n 6 (((T 0).y).im.val), .n 6 (((T 0).z).re.val), .n 6 (((T 0).z).im.val)], undef, undef, undef, undef, undef, undef, undef, undef, undef, undef, undef, undef, undef, undef, undef, undef, undef, undef, undef, undef, undef, undef], []⟩) 1 (fun _ => 51) (fun _ => 1) (fun _ => 2) (fun _ => segs [.n 6 0, .n 6 0, .n 6 0, .n 6 0, .n 6 0, .n 6 0]) (fun _ => segs [.n 6 (((T 0).x).re.val), .n 6 (((T 0).x).im.val), .n 6 (((T 0).y).re.val), .n 6 (((T 0).y).im.val), .n 6 (((T 0).z).re.val), .n 6 (((T 0).z).im.val)]) [7, 5] (.inr ⟨rfl, by kernel_rfl⟩) (by kernel_rfl) rfl rfl rfl ?_ ?_)
  · refine GSteps.cons (gm_call (v := sv [.n 6 (((T 0).x).re.val), .n 6 (((T 0).x).im.val), .n 6 (((T 0).y).re.val), .n 6 (((T 0).y).im.val), .n 6 (((T 0).z).re.val), .n 6 (((T 0).z).im.val)]) rfl (fun _ => rfl) (fun _ => rfl) (fun γ w => ex_call (vs := []) rfl Try.call50 rfl) (fun w h => hT0 _) rfl) ?_
    refine GSteps.cons (gm_new 0 rfl (fun _ => rfl) (fun _ _ => rfl) (fun γ w => ex_allocs (l := [.n 6 0, .n 6 0, .n 6 0, .n 6 0, .n 6 0, .n 6 0]) zPG2) rfl (by kernel_rfl)) ?_
    refine GSteps.cons (gm_store 0 rfl rfl (fun _ => rfl) (len_segs (l := [.n 6 (((T 0).x).re.val), .n 6 (((T 0).x).im.val), .n 6 (((T 0).y).re.val), .n 6 (((T 0).y).im.val), .n 6 (((T 0).z).re.val), .n 6 (((T 0).z).im.val)]) (l' := [.n 6 0, .n 6 0, .n 6 0, .n 6 0, .n 6 0, .n 6 0]) rfl) (fun γ w h => ex_stores 0 6 (l := [.n 6 0, .n 6 0, .n 6 0, .n 6 0, .n 6 0, .n 6 0]) (m := [.n 6 (((T 0).x).re.val), .n 6 (((T 0).x).im.val), .n 6 (((T 0).y).re.val), .n 6 (((T 0).y).im.val), .n 6 (((T 0).z).re.val), .n 6 (((T 0).z).im.val)]) flPG2.2 rfl rfl rfl rfl h rfl rfl) rfl rfl (by kernel_rfl)) ?_
    exact GSteps.nil
  intro γ6 w6 hb6 hB6 _
  refine th_r ?_
  have A7 := A2.keep hb6.out
  have A8 := A3.keep hb6.out
  have A9 := A4.keep hb6.out
  have A10 : SB 51 w6 (γ6 0) [.n 6 (((T 0).x).re.val), .n 6 (((T 0).x).im.val), .n 6 (((T 0).y).re.val), .n 6 (((T 0).y).im.val), .n 6 (((T 0).z).re.val), .n 6 (((T 0).z).im.val)] := (hB6 0 (by decide)).2
  have le10 := (hB6 0 (by decide)).1
  have HB11 := below_then HB5 hb6.out
  refine wp_seq ?_
  refine wp_seq (region_m (F := fun _ => ⟨#[sv [.n 6 s.x.re.val, .n 6 s.x.im.val, .n 6 s.y.re.val, .n 6 s.y.im.val, .n 6 s.z.re.val, .n 6 s.z.im.val], nv 4 [k], .pointer (some ⟨(γ1 0), 0, none⟩), .pointer (some ⟨(γ1 1), 0, none⟩), .pointer (some ⟨(γ1 2), 0, none⟩), .pointer (some ⟨(γ6 0), 0, none⟩), .int .i64 ((L : Int) - 1 - ((0 : Nat) : Int)), sv [.n 6 (((T 0).x).re.val), .n 6 (((T 0).x).im.val), .n 6 (((T 0).y).re.val), .n 6 (((T 0).y).im.val), .n 6 (((T 0).z).re.val), .n 6 (((T 0).z).im.val)], nv 4 [k], .int .i64 ((L : Nat) : Int), .int .i64 ((L : Int) - 1 - ((0 : Nat) : Int)), undef, undef, undef, undef, undef, undef, undef, undef, undef, undef, undef, undef, undef, undef, undef, undef, undef, undef, undef], []⟩) 0 (fun _ => 0) (fun _ => 0) (fun _ => 0) (fun _ => []) (fun _ => []) [8, 9, 10, 6] (.inr ⟨rfl, by kernel_rfl⟩) (by kernel_rfl) rfl rfl rfl ?_ ?_)
  · refine GSteps.cons (gm_val (v := nv 4 [k]) rfl (fun _ => rfl) (fun _ => rfl) (fun γ w h => ex_loadsn (K := 4) 0 1 (m := [k]) flFr rfl rfl (A8.keep h.out) rfl rfl) rfl) ?_
    refine GSteps.cons (gm_call (v := .int .i64 ((L : Nat) : Int)) rfl (fun _ => rfl) (fun _ => rfl) (fun γ w => ex_call (vs := [nv 4 [k]]) rfl Try.call52 rfl) (fun w h => hL _) rfl) ?_
    refine GSteps.cons (gm_val (v := .int .i64 ((L : Int) - 1 - ((0 : Nat) : Int))) rfl (fun _ => rfl) (fun _ => rfl) (fun γ w h => ex_isub rfl rfl ((L : Int) - 1 - ((0 : Nat) : Int)) (by rw [wrapI64 (by omega) (by omega)]; omega)) rfl) ?_
    refine GSteps.cons (gm_val (v := .int .i64 ((L : Int) - 1 - ((0 : Nat) : Int))) rfl (fun _ => rfl) (fun _ => rfl) (fun γ w h => ex_assign _) rfl) ?_
    exact GSteps.nil
  intro _ w12 hb12 _ _
  refine th_r ?_
  have A13 := A7.keep hb12.out
  have A14 := A8.keep hb12.out
  have A15 := A9.keep hb12.out
  have A16 := A10.keep hb12.out
  have HB17 := below_then HB11 hb12.out
  refine wp_block ?_
  refine wp_loop_by (L) (fun q_ a_ v_ => ∃ j11 j12 j13 j14 j15 j16 j17 j18 j19 j20 j21 j22 j23 j24 j25 j26 j27 j28 : Value, a_ = ⟨#[sv [.n 6 s.x.re.val, .n 6 s.x.im.val, .n 6 s.y.re.val, .n 6 s.y.im.val, .n 6 s.z.re.val, .n 6 s.z.im.val], nv 4 [k], .pointer (some ⟨(γ1 0), 0, none⟩), .pointer (some ⟨(γ1 1), 0, none⟩), .pointer (some ⟨(γ1 2), 0, none⟩), .pointer (some ⟨(γ6 0), 0, none⟩), .int .i64 ((L : Int) - 1 - ((q_ : Nat) : Int)), sv [.n 6 (((T 0).x).re.val), .n 6 (((T 0).x).im.val), .n 6 (((T 0).y).re.val), .n 6 (((T 0).y).im.val), .n 6 (((T 0).z).re.val), .n 6 (((T 0).z).im.val)], nv 4 [k], .int .i64 ((L : Nat) : Int), .int .i64 ((L : Int) - 1 - ((0 : Nat) : Int)), j11, j12, j13, j14, j15, j16, j17, j18, j19, j20, j21, j22, j23, j24, j25, j26, j27, j28, undef], []⟩ ∧ SB 51 v_ (γ1 0) [.n 6 s.x.re.val, .n 6 s.x.im.val, .n 6 s.y.re.val, .n 6 s.y.im.val, .n 6 s.z.re.val, .n 6 s.z.im.val] ∧ SB 44 v_ (γ1 1) [.n 4 k] ∧ SB 51 v_ (γ1 2) [.n 6 0, .n 6 0, .n 6 0, .n 6 0, .n 6 0, .n 6 0] ∧ SB 51 v_ (γ6 0) [.n 6 (((T q_).x).re.val), .n 6 (((T q_).x).im.val), .n 6 (((T q_).y).re.val), .n 6 (((T q_).y).im.val), .n 6 (((T q_).z).re.val), .n 6 (((T q_).z).im.val)] ∧ Below w.heap.size w v_) ⟨_, _, _, _, _, _, _, _, _, _, _, _, _, _, _, _, _, _, rfl, A13, A14, A15, A16, HB17⟩ ?_ ?_
  · intro k18 hk18
    rintro _ w18 ⟨i18_11, i18_12, i18_13, i18_14, i18_15, i18_16, i18_17, i18_18, i18_19, i18_20, i18_21, i18_22, i18_23, i18_24, i18_25, i18_26, i18_27, i18_28, rfl, A18_0, A18_1, A18_2, A18_3, HB18⟩ K18 hK18
    obtain ⟨n, hn⟩ : ∃ n, L = n + 1 + k18 := ⟨L - 1 - k18, by omega⟩
    have en : (L : Int) - 1 - ((k18 : Nat) : Int) = (n : Int) := by omega
    rw [en]
    have hn4 : n / 64 < 4 := by omega
    refine wp_seq ?_
    refine wp_seq (region_m (F := fun _ => ⟨#[sv [.n 6 s.x.re.val, .n 6 s.x.im.val, .n 6 s.y.re.val, .n 6 s.y.im.val, .n 6 s.z.re.val, .n 6 s.z.im.val], nv 4 [k], .pointer (some ⟨(γ1 0), 0, none⟩), .pointer (some ⟨(γ1 1), 0, none⟩), .pointer (some ⟨(γ1 2), 0, none⟩), .pointer (some ⟨(γ6 0), 0, none⟩), .int .i64 (n : Int), sv [.n 6 (((T 0).x).re.val), .n 6 (((T 0).x).im.val), .n 6 (((T 0).y).re.val), .n 6 (((T 0).y).im.val), .n 6 (((T 0).z).re.val), .n 6 (((T 0).z).im.val)], nv 4 [k], .int .i64 ((L : Nat) : Int), .int .i64 ((L : Int) - 1 - ((0 : Nat) : Int)), .int .i64 (n : Int), .bool true, i18_13, i18_14, i18_15, i18_16, i18_17, i18_18, i18_19, i18_20, i18_21, i18_22, i18_23, i18_24, i18_25, i18_26, i18_27, i18_28, undef], []⟩) 0 (fun _ => 0) (fun _ => 0) (fun _ => 0) (fun _ => []) (fun _ => []) [11, 12] (.inr ⟨rfl, by kernel_rfl⟩) (by kernel_rfl) rfl rfl rfl ?_ ?_)
    · refine GSteps.cons (gm_val (v := .int .i64 (n : Int)) rfl (fun _ => rfl) (fun _ => rfl) (fun γ w h => ex_move _) rfl) ?_
      refine GSteps.cons (gm_val (v := .bool true) rfl (fun _ => rfl) (fun _ => rfl) (fun γ w h => ex_igeq rfl rfl true (by first | (simp; done) | (simp; omega))) rfl) ?_
      exact GSteps.nil
    intro _ w19 hb19 _ _
    refine th_r ?_
    have A20 := A18_0.keep hb19.out
    have A21 := A18_1.keep hb19.out
    have A22 := A18_2.keep hb19.out
    have A23 := A18_3.keep hb19.out
    have HB24 := below_then HB18 hb19.out
    refine wp_cond_true rfl ?_
    refine wp_skip ?_
    refine th_r ?_
    refine wp_seq ?_
    refine wp_block ?_
    refine wp_seq (region_ms (F := fun _ => ⟨#[sv [.n 6 s.x.re.val, .n 6 s.x.im.val, .n 6 s.y.re.val, .n 6 s.y.im.val, .n 6 s.z.re.val, .n 6 s.z.im.val], nv 4 [k], .pointer (some ⟨(γ1 0), 0, none⟩), .pointer (some ⟨(γ1 1), 0, none⟩), .pointer (some ⟨(γ1 2), 0, none⟩), .pointer (some ⟨(γ6 0), 0, none⟩), .int .i64 (n : Int), sv [.n 6 (((T 0).x).re.val), .n 6 (((T 0).x).im.val), .n 6 (((T 0).y).re.val), .n 6 (((T 0).y).im.val), .n 6 (((T 0).z).re.val), .n 6 (((T 0).z).im.val)], nv 4 [k], .int .i64 ((L : Nat) : Int), .int .i64 ((L : Int) - 1 - ((0 : Nat) : Int)), .int .i64 (n : Int), .bool true, i18_13, i18_14, sv [.n 6 (((T k18).x).re.val), .n 6 (((T k18).x).im.val), .n 6 (((T k18).y).re.val), .n 6 (((T k18).y).im.val), .n 6 (((T k18).z).re.val), .n 6 (((T k18).z).im.val)], sv [.n 6 (((U k18).x).re.val), .n 6 (((U k18).x).im.val), .n 6 (((U k18).y).re.val), .n 6 (((U k18).y).im.val), .n 6 (((U k18).z).re.val), .n 6 (((U k18).z).im.val)], i18_17, i18_18, i18_19, i18_20, i18_21, i18_22, i18_23, i18_24, i18_25, i18_26, i18_27, i18_28, undef], []⟩) 2 ((γ6 0)) 0 (segs [.n 6 (((U k18).x).re.val), .n 6 (((U k18).x).im.val), .n 6 (((U k18).y).re.val), .n 6 (((U k18).y).im.val), .n 6 (((U k18).z).re.val), .n 6 (((U k18).z).im.val)]) 0 (fun _ => 0) (fun _ => 0) (fun _ => 0) (fun _ => []) (fun _ => []) [15, 16] (.inr ⟨rfl, by kernel_rfl⟩) (by kernel_rfl) rfl rfl rfl ?_ ?_)
    · refine GSteps.cons (late_step (gm_val (v := sv [.n 6 (((T k18).x).re.val), .n 6 (((T k18).x).im.val), .n 6 (((T k18).y).re.val), .n 6 (((T k18).y).im.val), .n 6 (((T k18).z).re.val), .n 6 (((T k18).z).im.val)]) rfl (fun _ => rfl) (fun _ => rfl) (fun γ w h => ex_loads 0 6 (m := [.n 6 (((T k18).x).re.val), .n 6 (((T k18).x).im.val), .n 6 (((T k18).y).re.val), .n 6 (((T k18).y).im.val), .n 6 (((T k18).z).re.val), .n 6 (((T k18).z).im.val)]) flPG2 rfl rfl (A23.keep h.out) rfl rfl) rfl) (by kernel_rfl) rfl) ?_
      refine GSteps.cons (late_step (gm_call (v := sv [.n 6 (((U k18).x).re.val), .n 6 (((U k18).x).im.val), .n 6 (((U k18).y).re.val), .n 6 (((U k18).y).im.val), .n 6 (((U k18).z).re.val), .n 6 (((U k18).z).im.val)]) rfl (fun _ => rfl) (fun _ => rfl) (fun γ w => ex_call (vs := [sv [.n 6 (((T k18).x).re.val), .n 6 (((T k18).x).im.val), .n 6 (((T k18).y).re.val), .n 6 (((T k18).y).im.val), .n 6 (((T k18).z).re.val), .n 6 (((T k18).z).im.val)]]) rfl Try.call53 rfl) (fun w h => twotwice_q (hU k18) _) rfl) (by kernel_rfl) rfl) ?_
      refine GSteps.cons (late_store rfl (fun _ => rfl) (fun γ w h => ex_stores 0 6 (l := [.n 6 (((T k18).x).re.val), .n 6 (((T k18).x).im.val), .n 6 (((T k18).y).re.val), .n 6 (((T k18).y).im.val), .n 6 (((T k18).z).re.val), .n 6 (((T k18).z).im.val)]) (m := [.n 6 (((U k18).x).re.val), .n 6 (((U k18).x).im.val), .n 6 (((U k18).y).re.val), .n 6 (((U k18).y).im.val), .n 6 (((U k18).z).re.val), .n 6 (((U k18).z).im.val)]) flPG2.2 rfl rfl rfl rfl (A23.keep h.out) rfl rfl) rfl) ?_
      exact GSteps.nil
    intro _ w25 w25_ hb25 _ _ hs25
    refine th_r ?_
    have A26 := A20.keep hb25.out
    have A27 := A21.keep hb25.out
    have A28 := A22.keep hb25.out
    have A29 := A23.keep hb25.out
    have HB30 := below_then HB24 hb25.out
    have A31 := hs25.other (Nat.ne_of_lt (Nat.lt_of_lt_of_le A2.lt le10)) A26
    have A32 := hs25.other (Nat.ne_of_lt (Nat.lt_of_lt_of_le A3.lt le10)) A27
    have A33 := hs25.other (Nat.ne_of_lt (Nat.lt_of_lt_of_le A4.lt le10)) A28
    have A34 := hs25.here 0 6 (l' := [.n 6 (((U k18).x).re.val), .n 6 (((U k18).x).im.val), .n 6 (((U k18).y).re.val), .n 6 (((U k18).y).im.val), .n 6 (((U k18).z).re.val), .n 6 (((U k18).z).im.val)]) A29 rfl rfl rfl
    have HB35 := hs25.below HB30 (Nat.le_trans HB5.size le10)
    rcases Nat.mod_two_eq_zero_or_one (k / 2 ^ n) with hb | hb
    · refine wp_seq (region_m (F := fun _ => ⟨#[sv [.n 6 s.x.re.val, .n 6 s.x.im.val, .n 6 s.y.re.val, .n 6 s.y.im.val, .n 6 s.z.re.val, .n 6 s.z.im.val], nv 4 [k], .pointer (some ⟨(γ1 0), 0, none⟩), .pointer (some ⟨(γ1 1), 0, none⟩), .pointer (some ⟨(γ1 2), 0, none⟩), .pointer (some ⟨(γ6 0), 0, none⟩), .int .i64 (n : Int), sv [.n 6 (((T 0).x).re.val), .n 6 (((T 0).x).im.val), .n 6 (((T 0).y).re.val), .n 6 (((T 0).y).im.val), .n 6 (((T 0).z).re.val), .n 6 (((T 0).z).im.val)], nv 4 [k], .int .i64 ((L : Nat) : Int), .int .i64 ((L : Int) - 1 - ((0 : Nat) : Int)), .int .i64 (n : Int), .bool true, i18_13, i18_14, sv [.n 6 (((T k18).x).re.val), .n 6 (((T k18).x).im.val), .n 6 (((T k18).y).re.val), .n 6 (((T k18).y).im.val), .n 6 (((T k18).z).re.val), .n 6 (((T k18).z).im.val)], sv [.n 6 (((U k18).x).re.val), .n 6 (((U k18).x).im.val), .n 6 (((U k18).y).re.val), .n 6 (((U k18).y).im.val), .n 6 (((U k18).z).re.val), .n 6 (((U k18).z).im.val)], .int .i64 (n : Int), .int .i64 ((n / 64 : Nat) : Int), .pointer (some ⟨(γ1 1), n / 64, none⟩), .int .u64 ((lb k (n / 64) : Nat) : Int), .int .i64 (n : Int), .int .i64 ((n % 64 : Nat) : Int), .int .u64 ((lb k (n / 64) / 2 ^ (n % 64) : Nat) : Int), .int .u64 ((0 : Nat) : Int), .bool false, i18_26, i18_27, i18_28, undef], []⟩) 0 (fun _ => 0) (fun _ => 0) (fun _ => 0) (fun _ => []) (fun _ => []) [17, 18, 19, 20, 21, 22, 23, 24, 25] (.inr ⟨rfl, by kernel_rfl⟩) (by kernel_rfl) rfl rfl rfl ?_ ?_)
      · refine GSteps.cons (gm_val (v := .int .i64 (n : Int)) rfl (fun _ => rfl) (fun _ => rfl) (fun γ w h => ex_move _) rfl) ?_
        refine GSteps.cons (gm_val (v := .int .i64 ((n / 64 : Nat) : Int)) rfl (fun _ => rfl) (fun _ => rfl) (fun γ w h => ex_iquo (a := n) (b := 64) rfl rfl (by decide) (by omega)) rfl) ?_
        refine GSteps.cons (gm_valg (fun γ => .pointer (some ⟨(γ1 1), n / 64, none⟩)) rfl (fun _ => rfl) (fun _ => rfl) (fun γ w h => ex_indexFr2 (n / 64) rfl rfl hn4) rfl) ?_
        refine GSteps.cons (gm_val (v := .int .u64 ((lb k (n / 64) : Nat) : Int)) rfl (fun _ => rfl) (fun _ => rfl) (fun γ w h => ex_loadlimb (v := k) (o := n / 64) (K := 4) (A32.keep h.out) hn4 rfl sgU64) rfl) ?_
        refine GSteps.cons (gm_val (v := .int .i64 (n : Int)) rfl (fun _ => rfl) (fun _ => rfl) (fun γ w h => ex_move _) rfl) ?_
        refine GSteps.cons (gm_val (v := .int .i64 ((n % 64 : Nat) : Int)) rfl (fun _ => rfl) (fun _ => rfl) (fun γ w h => ex_irem (a := n) (b := 64) rfl rfl (by decide)) rfl) ?_
        refine GSteps.cons (gm_val (v := .int .u64 ((lb k (n / 64) / 2 ^ (n % 64) : Nat) : Int)) rfl (fun _ => rfl) (fun _ => rfl) (fun γ w h => ex_ushr rfl rfl (by omega)) rfl) ?_
        refine GSteps.cons (gm_val (v := .int .u64 ((0 : Nat) : Int)) rfl (fun _ => rfl) (fun _ => rfl) (fun γ w h => ex_uand1 rfl rfl 0 (by rw [lb_is_bit]; exact hb) (Nat.lt_of_le_of_lt (Nat.div_le_self _ _) (lb_lt k (n / 64)))) rfl) ?_
        refine GSteps.cons (gm_val (v := .bool false) rfl (fun _ => rfl) (fun _ => rfl) (fun γ w h => ex_eqi rfl rfl false rfl) rfl) ?_
        exact GSteps.nil
      intro _ w36 hb36 _ _
      refine th_r ?_
      have A37 := A31.keep hb36.out
      have A38 := A32.keep hb36.out
      have A39 := A33.keep hb36.out
      have A40 := A34.keep hb36.out
      have HB41 := below_then HB35 hb36.out
      refine wp_cond_false rfl ?_
      refine wp_skip ?_
      refine bk_n ?_
      refine th_r ?_
      refine wp_region_lit ?_
      refine sq_val (a' := ⟨#[sv [.n 6 s.x.re.val, .n 6 s.x.im.val, .n 6 s.y.re.val, .n 6 s.y.im.val, .n 6 s.z.re.val, .n 6 s.z.im.val], nv 4 [k], .pointer (some ⟨(γ1 0), 0, none⟩), .pointer (some ⟨(γ1 1), 0, none⟩), .pointer (some ⟨(γ1 2), 0, none⟩), .pointer (some ⟨(γ6 0), 0, none⟩), .int .i64 (n : Int), sv [.n 6 (((T 0).x).re.val), .n 6 (((T 0).x).im.val), .n 6 (((T 0).y).re.val), .n 6 (((T 0).y).im.val), .n 6 (((T 0).z).re.val), .n 6 (((T 0).z).im.val)], nv 4 [k], .int .i64 ((L : Nat) : Int), .int .i64 ((L : Int) - 1 - ((0 : Nat) : Int)), .int .i64 (n : Int), .bool true, .int .i64 (n : Int), i18_14, sv [.n 6 (((T k18).x).re.val), .n 6 (((T k18).x).im.val), .n 6 (((T k18).y).re.val), .n 6 (((T k18).y).im.val), .n 6 (((T k18).z).re.val), .n 6 (((T k18).z).im.val)], sv [.n 6 (((U k18).x).re.val), .n 6 (((U k18).x).im.val), .n 6 (((U k18).y).re.val), .n 6 (((U k18).y).im.val), .n 6 (((U k18).z).re.val), .n 6 (((U k18).z).im.val)], .int .i64 (n : Int), .int .i64 ((n / 64 : Nat) : Int), .pointer (some ⟨(γ1 1), n / 64, none⟩), .int .u64 ((lb k (n / 64) : Nat) : Int), .int .i64 (n : Int), .int .i64 ((n % 64 : Nat) : Int), .int .u64 ((lb k (n / 64) / 2 ^ (n % 64) : Nat) : Int), .int .u64 ((0 : Nat) : Int), .bool false, i18_26, i18_27, i18_28, undef], []⟩) (v := .int .i64 (n : Int)) rfl rfl (ex_move _) ?_
      refine sq_val (a' := ⟨#[sv [.n 6 s.x.re.val, .n 6 s.x.im.val, .n 6 s.y.re.val, .n 6 s.y.im.val, .n 6 s.z.re.val, .n 6 s.z.im.val], nv 4 [k], .pointer (some ⟨(γ1 0), 0, none⟩), .pointer (some ⟨(γ1 1), 0, none⟩), .pointer (some ⟨(γ1 2), 0, none⟩), .pointer (some ⟨(γ6 0), 0, none⟩), .int .i64 (n : Int), sv [.n 6 (((T 0).x).re.val), .n 6 (((T 0).x).im.val), .n 6 (((T 0).y).re.val), .n 6 (((T 0).y).im.val), .n 6 (((T 0).z).re.val), .n 6 (((T 0).z).im.val)], nv 4 [k], .int .i64 ((L : Nat) : Int), .int .i64 ((L : Int) - 1 - ((0 : Nat) : Int)), .int .i64 (n : Int), .bool true, .int .i64 (n : Int), .int .i64 ((L : Int) - 1 - ((k18 + 1 : Nat) : Int)), sv [.n 6 (((T k18).x).re.val), .n 6 (((T k18).x).im.val), .n 6 (((T k18).y).re.val), .n 6 (((T k18).y).im.val), .n 6 (((T k18).z).re.val), .n 6 (((T k18).z).im.val)], sv [.n 6 (((U k18).x).re.val), .n 6 (((U k18).x).im.val), .n 6 (((U k18).y).re.val), .n 6 (((U k18).y).im.val), .n 6 (((U k18).z).re.val), .n 6 (((U k18).z).im.val)], .int .i64 (n : Int), .int .i64 ((n / 64 : Nat) : Int), .pointer (some ⟨(γ1 1), n / 64, none⟩), .int .u64 ((lb k (n / 64) : Nat) : Int), .int .i64 (n : Int), .int .i64 ((n % 64 : Nat) : Int), .int .u64 ((lb k (n / 64) / 2 ^ (n % 64) : Nat) : Int), .int .u64 ((0 : Nat) : Int), .bool false, i18_26, i18_27, i18_28, undef], []⟩) (v := .int .i64 ((L : Int) - 1 - ((k18 + 1 : Nat) : Int))) rfl rfl (ex_isub rfl rfl ((L : Int) - 1 - ((k18 + 1 : Nat) : Int)) (by rw [wrapI64 (by omega) (by omega)]; omega)) ?_
      refine sq_val (a' := ⟨#[sv [.n 6 s.x.re.val, .n 6 s.x.im.val, .n 6 s.y.re.val, .n 6 s.y.im.val, .n 6 s.z.re.val, .n 6 s.z.im.val], nv 4 [k], .pointer (some ⟨(γ1 0), 0, none⟩), .pointer (some ⟨(γ1 1), 0, none⟩), .pointer (some ⟨(γ1 2), 0, none⟩), .pointer (some ⟨(γ6 0), 0, none⟩), .int .i64 ((L : Int) - 1 - ((k18 + 1 : Nat) : Int)), sv [.n 6 (((T 0).x).re.val), .n 6 (((T 0).x).im.val), .n 6 (((T 0).y).re.val), .n 6 (((T 0).y).im.val), .n 6 (((T 0).z).re.val), .n 6 (((T 0).z).im.val)], nv 4 [k], .int .i64 ((L : Nat) : Int), .int .i64 ((L : Int) - 1 - ((0 : Nat) : Int)), .int .i64 (n : Int), .bool true, .int .i64 (n : Int), .int .i64 ((L : Int) - 1 - ((k18 + 1 : Nat) : Int)), sv [.n 6 (((T k18).x).re.val), .n 6 (((T k18).x).im.val), .n 6 (((T k18).y).re.val), .n 6 (((T k18).y).im.val), .n 6 (((T k18).z).re.val), .n 6 (((T k18).z).im.val)], sv [.n 6 (((U k18).x).re.val), .n 6 (((U k18).x).im.val), .n 6 (((U k18).y).re.val), .n 6 (((U k18).y).im.val), .n 6 (((U k18).z).re.val), .n 6 (((U k18).z).im.val)], .int .i64 (n : Int), .int .i64 ((n / 64 : Nat) : Int), .pointer (some ⟨(γ1 1), n / 64, none⟩), .int .u64 ((lb k (n / 64) : Nat) : Int), .int .i64 (n : Int), .int .i64 ((n % 64 : Nat) : Int), .int .u64 ((lb k (n / 64) / 2 ^ (n % 64) : Nat) : Int), .int .u64 ((0 : Nat) : Int), .bool false, i18_26, i18_27, i18_28, undef], []⟩) (v := .int .i64 ((L : Int) - 1 - ((k18 + 1 : Nat) : Int))) rfl rfl (ex_assign _) ?_
      refine wpList_nil ?_
      refine th_r ?_
      exact hK18.out _ _ ⟨_, _, _, _, _, _, _, _, _, _, _, _, _, _, _, _, _, _, rfl, A37, A38, A39, (by rw [hS0 _ (by rw [show L - (_ + 1) = n by omega]; exact hb)]; exact A40), HB41⟩
    · refine wp_seq (region_m (F := fun _ => ⟨#[sv [.n 6 s.x.re.val, .n 6 s.x.im.val, .n 6 s.y.re.val, .n 6 s.y.im.val, .n 6 s.z.re.val, .n 6 s.z.im.val], nv 4 [k], .pointer (some ⟨(γ1 0), 0, none⟩), .pointer (some ⟨(γ1 1), 0, none⟩), .pointer (some ⟨(γ1 2), 0, none⟩), .pointer (some ⟨(γ6 0), 0, none⟩), .int .i64 (n : Int), sv [.n 6 (((T 0).x).re.val), .n 6 (((T 0).x).im.val), .n 6 (((T 0).y).re.val), .n 6 (((T 0).y).im.val), .n 6 (((T 0).z).re.val), .n 6 (((T 0).z).im.val)], nv 4 [k], .int .i64 ((L : Nat) : Int), .int .i64 ((L : Int) - 1 - ((0 : Nat) : Int)), .int .i64 (n : Int), .bool true, i18_13, i18_14, sv [.n 6 (((T k18).x).re.val), .n 6 (((T k18).x).im.val), .n 6 (((T k18).y).re.val), .n 6 (((T k18).y).im.val), .n 6 (((T k18).z).re.val), .n 6 (((T k18).z).im.val)], sv [.n 6 (((U k18).x).re.val), .n 6 (((U k18).x).im.val), .n 6 (((U k18).y).re.val), .n 6 (((U k18).y).im.val), .n 6 (((U k18).z).re.val), .n 6 (((U k18).z).im.val)], .int .i64 (n : Int), .int .i64 ((n / 64 : Nat) : Int), .pointer (some ⟨(γ1 1), n / 64, none⟩), .int .u64 ((lb k (n / 64) : Nat) : Int), .int .i64 (n : Int), .int .i64 ((n % 64 : Nat) : Int), .int .u64 ((lb k (n / 64) / 2 ^ (n % 64) : Nat) : Int), .int .u64 ((1 : Nat) : Int), .bool true, i18_26, i18_27, i18_28, undef], []⟩) 0 (fun _ => 0) (fun _ => 0) (fun _ => 0) (fun _ => []) (fun _ => []) [17, 18, 19, 20, 21, 22, 23, 24, 25] (.inr ⟨rfl, by kernel_rfl⟩) (by kernel_rfl) rfl rfl rfl ?_ ?_)
      · refine GSteps.cons (gm_val (v := .int .i64 (n : Int)) rfl (fun _ => rfl) (fun _ => rfl) (fun γ w h => ex_move _) rfl) ?_
        refine GSteps.cons (gm_val (v := .int .i64 ((n / 64 : Nat) : Int)) rfl (fun _ => rfl) (fun _ => rfl) (fun γ w h => ex_iquo (a := n) (b := 64) rfl rfl (by decide) (by omega)) rfl) ?_
        refine GSteps.cons (gm_valg (fun γ => .pointer (some ⟨(γ1 1), n / 64, none⟩)) rfl (fun _ => rfl) (fun _ => rfl) (fun γ w h => ex_indexFr2 (n / 64) rfl rfl hn4) rfl) ?_
        refine GSteps.cons (gm_val (v := .int .u64 ((lb k (n / 64) : Nat) : Int)) rfl (fun _ => rfl) (fun _ => rfl) (fun γ w h => ex_loadlimb (v := k) (o := n / 64) (K := 4) (A32.keep h.out) hn4 rfl sgU64) rfl) ?_
        refine GSteps.cons (gm_val (v := .int .i64 (n : Int)) rfl (fun _ => rfl) (fun _ => rfl) (fun γ w h => ex_move _) rfl) ?_
        refine GSteps.cons (gm_val (v := .int .i64 ((n % 64 : Nat) : Int)) rfl (fun _ => rfl) (fun _ => rfl) (fun γ w h => ex_irem (a := n) (b := 64) rfl rfl (by decide)) rfl) ?_
        refine GSteps.cons (gm_val (v := .int .u64 ((lb k (n / 64) / 2 ^ (n % 64) : Nat) : Int)) rfl (fun _ => rfl) (fun _ => rfl) (fun γ w h => ex_ushr rfl rfl (by omega)) rfl) ?_
        refine GSteps.cons (gm_val (v := .int .u64 ((1 : Nat) : Int)) rfl (fun _ => rfl) (fun _ => rfl) (fun γ w h => ex_uand1 rfl rfl 1 (by rw [lb_is_bit]; exact hb) (Nat.lt_of_le_of_lt (Nat.div_le_self _ _) (lb_lt k (n / 64)))) rfl) ?_
        refine GSteps.cons (gm_val (v := .bool true) rfl (fun _ => rfl) (fun _ => rfl) (fun γ w h => ex_eqi rfl rfl true rfl) rfl) ?_
        exact GSteps.nil
      intro _ w42 hb42 _ _
      refine th_r ?_
      have A43 := A31.keep hb42.out
      have A44 := A32.keep hb42.out
      have A45 := A33.keep hb42.out
      have A46 := A34.keep hb42.out
      have HB47 := below_then HB35 hb42.out
      refine wp_cond_true rfl ?_
      refine region_ms (F := fun _ => ⟨#[sv [.n 6 s.x.re.val, .n 6 s.x.im.val, .n 6 s.y.re.val, .n 6 s.y.im.val, .n 6 s.z.re.val, .n 6 s.z.im.val], nv 4 [k], .pointer (some ⟨(γ1 0), 0, none⟩), .pointer (some ⟨(γ1 1), 0, none⟩), .pointer (some ⟨(γ1 2), 0, none⟩), .pointer (some ⟨(γ6 0), 0, none⟩), .int .i64 (n : Int), sv [.n 6 (((T 0).x).re.val), .n 6 (((T 0).x).im.val), .n 6 (((T 0).y).re.val), .n 6 (((T 0).y).im.val), .n 6 (((T 0).z).re.val), .n 6 (((T 0).z).im.val)], nv 4 [k], .int .i64 ((L : Nat) : Int), .int .i64 ((L : Int) - 1 - ((0 : Nat) : Int)), .int .i64 (n : Int), .bool true, i18_13, i18_14, sv [.n 6 (((T k18).x).re.val), .n 6 (((T k18).x).im.val), .n 6 (((T k18).y).re.val), .n 6 (((T k18).y).im.val), .n 6 (((T k18).z).re.val), .n 6 (((T k18).z).im.val)], sv [.n 6 (((U k18).x).re.val), .n 6 (((U k18).x).im.val), .n 6 (((U k18).y).re.val), .n 6 (((U k18).y).im.val), .n 6 (((U k18).z).re.val), .n 6 (((U k18).z).im.val)], .int .i64 (n : Int), .int .i64 ((n / 64 : Nat) : Int), .pointer (some ⟨(γ1 1), n / 64, none⟩), .int .u64 ((lb k (n / 64) : Nat) : Int), .int .i64 (n : Int), .int .i64 ((n % 64 : Nat) : Int), .int .u64 ((lb k (n / 64) / 2 ^ (n % 64) : Nat) : Int), .int .u64 ((1 : Nat) : Int), .bool true, sv [.n 6 (((U k18).x).re.val), .n 6 (((U k18).x).im.val), .n 6 (((U k18).y).re.val), .n 6 (((U k18).y).im.val), .n 6 (((U k18).z).re.val), .n 6 (((U k18).z).im.val)], sv [.n 6 s.x.re.val, .n 6 s.x.im.val, .n 6 s.y.re.val, .n 6 s.y.im.val, .n 6 s.z.re.val, .n 6 s.z.im.val], sv [.n 6 (((V k18).x).re.val), .n 6 (((V k18).x).im.val), .n 6 (((V k18).y).re.val), .n 6 (((V k18).y).im.val), .n 6 (((V k18).z).re.val), .n 6 (((V k18).z).im.val)], undef], []⟩) 3 ((γ6 0)) 0 (segs [.n 6 (((V k18).x).re.val), .n 6 (((V k18).x).im.val), .n 6 (((V k18).y).re.val), .n 6 (((V k18).y).im.val), .n 6 (((V k18).z).re.val), .n 6 (((V k18).z).im.val)]) 0 (fun _ => 0) (fun _ => 0) (fun _ => 0) (fun _ => []) (fun _ => []) [26, 27, 28] (.inr ⟨rfl, by kernel_rfl⟩) (by kernel_rfl) rfl rfl rfl ?_ ?_
      · refine GSteps.cons (late_step (gm_val (v := sv [.n 6 (((U k18).x).re.val), .n 6 (((U k18).x).im.val), .n 6 (((U k18).y).re.val), .n 6 (((U k18).y).im.val), .n 6 (((U k18).z).re.val), .n 6 (((U k18).z).im.val)]) rfl (fun _ => rfl) (fun _ => rfl) (fun γ w h => ex_loads 0 6 (m := [.n 6 (((U k18).x).re.val), .n 6 (((U k18).x).im.val), .n 6 (((U k18).y).re.val), .n 6 (((U k18).y).im.val), .n 6 (((U k18).z).re.val), .n 6 (((U k18).z).im.val)]) flPG2 rfl rfl (A46.keep h.out) rfl rfl) rfl) (by kernel_rfl) rfl) ?_
        refine GSteps.cons (late_step (gm_val (v := sv [.n 6 s.x.re.val, .n 6 s.x.im.val, .n 6 s.y.re.val, .n 6 s.y.im.val, .n 6 s.z.re.val, .n 6 s.z.im.val]) rfl (fun _ => rfl) (fun _ => rfl) (fun γ w h => ex_loads 0 6 (m := [.n 6 s.x.re.val, .n 6 s.x.im.val, .n 6 s.y.re.val, .n 6 s.y.im.val, .n 6 s.z.re.val, .n 6 s.z.im.val]) flPG2 rfl rfl (A43.keep h.out) rfl rfl) rfl) (by kernel_rfl) rfl) ?_
        refine GSteps.cons (late_step (gm_call (v := sv [.n 6 (((V k18).x).re.val), .n 6 (((V k18).x).im.val), .n 6 (((V k18).y).re.val), .n 6 (((V k18).y).im.val), .n 6 (((V k18).z).re.val), .n 6 (((V k18).z).im.val)]) rfl (fun _ => rfl) (fun _ => rfl) (fun γ w => ex_call (vs := [sv [.n 6 (((U k18).x).re.val), .n 6 (((U k18).x).im.val), .n 6 (((U k18).y).re.val), .n 6 (((U k18).y).im.val), .n 6 (((U k18).z).re.val), .n 6 (((U k18).z).im.val)], sv [.n 6 s.x.re.val, .n 6 s.x.im.val, .n 6 s.y.re.val, .n 6 s.y.im.val, .n 6 s.z.re.val, .n 6 s.z.im.val]]) rfl Try.call37 rfl) (fun w h => twoplus_q (hV k18) _) rfl) (by kernel_rfl) rfl) ?_
        refine GSteps.cons (late_store rfl (fun _ => rfl) (fun γ w h => ex_stores 0 6 (l := [.n 6 (((U k18).x).re.val), .n 6 (((U k18).x).im.val), .n 6 (((U k18).y).re.val), .n 6 (((U k18).y).im.val), .n 6 (((U k18).z).re.val), .n 6 (((U k18).z).im.val)]) (m := [.n 6 (((V k18).x).re.val), .n 6 (((V k18).x).im.val), .n 6 (((V k18).y).re.val), .n 6 (((V k18).y).im.val), .n 6 (((V k18).z).re.val), .n 6 (((V k18).z).im.val)]) flPG2.2 rfl rfl rfl rfl (A46.keep h.out) rfl rfl) rfl) ?_
        exact GSteps.nil
      intro _ w48 w48_ hb48 _ _ hs48
      have A49 := A43.keep hb48.out
      have A50 := A44.keep hb48.out
      have A51 := A45.keep hb48.out
      have A52 := A46.keep hb48.out
      have HB53 := below_then HB47 hb48.out
      have A54 := hs48.other (Nat.ne_of_lt (Nat.lt_of_lt_of_le A2.lt le10)) A49
      have A55 := hs48.other (Nat.ne_of_lt (Nat.lt_of_lt_of_le A3.lt le10)) A50
      have A56 := hs48.other (Nat.ne_of_lt (Nat.lt_of_lt_of_le A4.lt le10)) A51
      have A57 := hs48.here 0 6 (l' := [.n 6 (((V k18).x).re.val), .n 6 (((V k18).x).im.val), .n 6 (((V k18).y).re.val), .n 6 (((V k18).y).im.val), .n 6 (((V k18).z).re.val), .n 6 (((V k18).z).im.val)]) A52 rfl rfl rfl
      have HB58 := hs48.below HB53 (Nat.le_trans HB5.size le10)
      refine bk_n ?_
      refine th_r ?_
      refine wp_region_lit ?_
      refine sq_val (a' := ⟨#[sv [.n 6 s.x.re.val, .n 6 s.x.im.val, .n 6 s.y.re.val, .n 6 s.y.im.val, .n 6 s.z.re.val, .n 6 s.z.im.val], nv 4 [k], .pointer (some ⟨(γ1 0), 0, none⟩), .pointer (some ⟨(γ1 1), 0, none⟩), .pointer (some ⟨(γ1 2), 0, none⟩), .pointer (some ⟨(γ6 0), 0, none⟩), .int .i64 (n : Int), sv [.n 6 (((T 0).x).re.val), .n 6 (((T 0).x).im.val), .n 6 (((T 0).y).re.val), .n 6 (((T 0).y).im.val), .n 6 (((T 0).z).re.val), .n 6 (((T 0).z).im.val)], nv 4 [k], .int .i64 ((L : Nat) : Int), .int .i64 ((L : Int) - 1 - ((0 : Nat) : Int)), .int .i64 (n : Int), .bool true, .int .i64 (n : Int), i18_14, sv [.n 6 (((T k18).x).re.val), .n 6 (((T k18).x).im.val), .n 6 (((T k18).y).re.val), .n 6 (((T k18).y).im.val), .n 6 (((T k18).z).re.val), .n 6 (((T k18).z).im.val)], sv [.n 6 (((U k18).x).re.val), .n 6 (((U k18).x).im.val), .n 6 (((U k18).y).re.val), .n 6 (((U k18).y).im.val), .n 6 (((U k18).z).re.val), .n 6 (((U k18).z).im.val)], .int .i64 (n : Int), .int .i64 ((n / 64 : Nat) : Int), .pointer (some ⟨(γ1 1), n / 64, none⟩), .int .u64 ((lb k (n / 64) : Nat) : Int), .int .i64 (n : Int), .int .i64 ((n % 64 : Nat) : Int), .int .u64 ((lb k (n / 64) / 2 ^ (n % 64) : Nat) : Int), .int .u64 ((1 : Nat) : Int), .bool true, sv [.n 6 (((U k18).x).re.val), .n 6 (((U k18).x).im.val), .n 6 (((U k18).y).re.val), .n 6 (((U k18).y).im.val), .n 6 (((U k18).z).re.val), .n 6 (((U k18).z).im.val)], sv [.n 6 s.x.re.val, .n 6 s.x.im.val, .n 6 s.y.re.val, .n 6 s.y.im.val, .n 6 s.z.re.val, .n 6 s.z.im.val], sv [.n 6 (((V k18).x).re.val), .n 6 (((V k18).x).im.val), .n 6 (((V k18).y).re.val), .n 6 (((V k18).y).im.val), .n 6 (((V k18).z).re.val), .n 6 (((V k18).z).im.val)], undef], []⟩) (v := .int .i64 (n : Int)) rfl rfl (ex_move _) ?_
      refine sq_val (a' := ⟨#[sv [.n 6 s.x.re.val, .n 6 s.x.im.val, .n 6 s.y.re.val, .n 6 s.y.im.val, .n 6 s.z.re.val, .n 6 s.z.im.val], nv 4 [k], .pointer (some ⟨(γ1 0), 0, none⟩), .pointer (some ⟨(γ1 1), 0, none⟩), .pointer (some ⟨(γ1 2), 0, none⟩), .pointer (some ⟨(γ6 0), 0, none⟩), .int .i64 (n : Int), sv [.n 6 (((T 0).x).re.val), .n 6 (((T 0).x).im.val), .n 6 (((T 0).y).re.val), .n 6 (((T 0).y).im.val), .n 6 (((T 0).z).re.val), .n 6 (((T 0).z).im.val)], nv 4 [k], .int .i64 ((L : Nat) : Int), .int .i64 ((L : Int) - 1 - ((0 : Nat) : Int)), .int .i64 (n : Int), .bool true, .int .i64 (n : Int), .int .i64 ((L : Int) - 1 - ((k18 + 1 : Nat) : Int)), sv [.n 6 (((T k18).x).re.val), .n 6 (((T k18).x).im.val), .n 6 (((T k18).y).re.val), .n 6 (((T k18).y).im.val), .n 6 (((T k18).z).re.val), .n 6 (((T k18).z).im.val)], sv [.n 6 (((U k18).x).re.val), .n 6 (((U k18).x).im.val), .n 6 (((U k18).y).re.val), .n 6 (((U k18).y).im.val), .n 6 (((U k18).z).re.val), .n 6 (((U k18).z).im.val)], .int .i64 (n : Int), .int .i64 ((n / 64 : Nat) : Int), .pointer (some ⟨(γ1 1), n / 64, none⟩), .int .u64 ((lb k (n / 64) : Nat) : Int), .int .i64 (n : Int), .int .i64 ((n % 64 : Nat) : Int), .int .u64 ((lb k (n / 64) / 2 ^ (n % 64) : Nat) : Int), .int .u64 ((1 : Nat) : Int), .bool true, sv [.n 6 (((U k18).x).re.val), .n 6 (((U k18).x).im.val), .n 6 (((U k18).y).re.val), .n 6 (((U k18).y).im.val), .n 6 (((U k18).z).re.val), .n 6 (((U k18).z).im.val)], sv [.n 6 s.x.re.val, .n 6 s.x.im.val, .n 6 s.y.re.val, .n 6 s.y.im.val, .n 6 s.z.re.val, .n 6 s.z.im.val], sv [.n 6 (((V k18).x).re.val), .n 6 (((V k18).x).im.val), .n 6 (((V k18).y).re.val), .n 6 (((V k18).y).im.val), .n 6 (((V k18).z).re.val), .n 6 (((V k18).z).im.val)], undef], []⟩) (v := .int .i64 ((L : Int) - 1 - ((k18 + 1 : Nat) : Int))) rfl rfl (ex_isub rfl rfl ((L : Int) - 1 - ((k18 + 1 : Nat) : Int)) (by rw [wrapI64 (by omega) (by omega)]; omega)) ?_
      refine sq_val (a' := ⟨#[sv [.n 6 s.x.re.val, .n 6 s.x.im.val, .n 6 s.y.re.val, .n 6 s.y.im.val, .n 6 s.z.re.val, .n 6 s.z.im.val], nv 4 [k], .pointer (some ⟨(γ1 0), 0, none⟩), .pointer (some ⟨(γ1 1), 0, none⟩), .pointer (some ⟨(γ1 2), 0, none⟩), .pointer (some ⟨(γ6 0), 0, none⟩), .int .i64 ((L : Int) - 1 - ((k18 + 1 : Nat) : Int)), sv [.n 6 (((T 0).x).re.val), .n 6 (((T 0).x).im.val), .n 6 (((T 0).y).re.val), .n 6 (((T 0).y).im.val), .n 6 (((T 0).z).re.val), .n 6 (((T 0).z).im.val)], nv 4 [k], .int .i64 ((L : Nat) : Int), .int .i64 ((L : Int) - 1 - ((0 : Nat) : Int)), .int .i64 (n : Int), .bool true, .int .i64 (n : Int), .int .i64 ((L : Int) - 1 - ((k18 + 1 : Nat) : Int)), sv [.n 6 (((T k18).x).re.val), .n 6 (((T k18).x).im.val), .n 6 (((T k18).y).re.val), .n 6 (((T k18).y).im.val), .n 6 (((T k18).z).re.val), .n 6 (((T k18).z).im.val)], sv [.n 6 (((U k18).x).re.val), .n 6 (((U k18).x).im.val), .n 6 (((U k18).y).re.val), .n 6 (((U k18).y).im.val), .n 6 (((U k18).z).re.val), .n 6 (((U k18).z).im.val)], .int .i64 (n : Int), .int .i64 ((n / 64 : Nat) : Int), .pointer (some ⟨(γ1 1), n / 64, none⟩), .int .u64 ((lb k (n / 64) : Nat) : Int), .int .i64 (n : Int), .int .i64 ((n % 64 : Nat) : Int), .int .u64 ((lb k (n / 64) / 2 ^ (n % 64) : Nat) : Int), .int .u64 ((1 : Nat) : Int), .bool true, sv [.n 6 (((U k18).x).re.val), .n 6 (((U k18).x).im.val), .n 6 (((U k18).y).re.val), .n 6 (((U k18).y).im.val), .n 6 (((U k18).z).re.val), .n 6 (((U k18).z).im.val)], sv [.n 6 s.x.re.val, .n 6 s.x.im.val, .n 6 s.y.re.val, .n 6 s.y.im.val, .n 6 s.z.re.val, .n 6 s.z.im.val], sv [.n 6 (((V k18).x).re.val), .n 6 (((V k18).x).im.val), .n 6 (((V k18).y).re.val), .n 6 (((V k18).y).im.val), .n 6 (((V k18).z).re.val), .n 6 (((V k18).z).im.val)], undef], []⟩) (v := .int .i64 ((L : Int) - 1 - ((k18 + 1 : Nat) : Int))) rfl rfl (ex_assign _) ?_
      refine wpList_nil ?_
      refine th_r ?_
      exact hK18.out _ _ ⟨_, _, _, _, _, _, _, _, _, _, _, _, _, _, _, _, _, _, rfl, A54, A55, A56, (by rw [hS1 _ (by rw [show L - (_ + 1) = n by omega]; exact hb)]; exact A57), HB58⟩
  · rintro _ w59 ⟨i59_11, i59_12, i59_13, i59_14, i59_15, i59_16, i59_17, i59_18, i59_19, i59_20, i59_21, i59_22, i59_23, i59_24, i59_25, i59_26, i59_27, i59_28, rfl, A59_0, A59_1, A59_2, A59_3, HB59⟩ K59
    refine wp_seq ?_
    refine wp_seq (region_m (F := fun _ => ⟨#[sv [.n 6 s.x.re.val, .n 6 s.x.im.val, .n 6 s.y.re.val, .n 6 s.y.im.val, .n 6 s.z.re.val, .n 6 s.z.im.val], nv 4 [k], .pointer (some ⟨(γ1 0), 0, none⟩), .pointer (some ⟨(γ1 1), 0, none⟩), .pointer (some ⟨(γ1 2), 0, none⟩), .pointer (some ⟨(γ6 0), 0, none⟩), .int .i64 ((L : Int) - 1 - ((L : Nat) : Int)), sv [.n 6 (((T 0).x).re.val), .n 6 (((T 0).x).im.val), .n 6 (((T 0).y).re.val), .n 6 (((T 0).y).im.val), .n 6 (((T 0).z).re.val), .n 6 (((T 0).z).im.val)], nv 4 [k], .int .i64 ((L : Nat) : Int), .int .i64 ((L : Int) - 1 - ((0 : Nat) : Int)), .int .i64 ((L : Int) - 1 - ((L : Nat) : Int)), .bool false, i59_13, i59_14, i59_15, i59_16, i59_17, i59_18, i59_19, i59_20, i59_21, i59_22, i59_23, i59_24, i59_25, i59_26, i59_27, i59_28, undef], []⟩) 0 (fun _ => 0) (fun _ => 0) (fun _ => 0) (fun _ => []) (fun _ => []) [11, 12] (.inr ⟨rfl, by kernel_rfl⟩) (by kernel_rfl) rfl rfl rfl ?_ ?_)
    · refine GSteps.cons (gm_val (v := .int .i64 ((L : Int) - 1 - ((L : Nat) : Int))) rfl (fun _ => rfl) (fun _ => rfl) (fun γ w h => ex_move _) rfl) ?_
      refine GSteps.cons (gm_val (v := .bool false) rfl (fun _ => rfl) (fun _ => rfl) (fun γ w h => ex_igeq rfl rfl false (by first | (simp; done) | (simp; omega))) rfl) ?_
      exact GSteps.nil
    intro _ w60 hb60 _ _
    refine th_r ?_
    have A61 := A59_0.keep hb60.out
    have A62 := A59_1.keep hb60.out
    have A63 := A59_2.keep hb60.out
    have A64 := A59_3.keep hb60.out
    have HB65 := below_then HB59 hb60.out
    refine wp_cond_false rfl ?_
    refine wp_exit (th_e (th_e (bk_e ?_)))
    refine th_r ?_
    refine wp_seq (region_ms (F := fun _ => ⟨#[sv [.n 6 s.x.re.val, .n 6 s.x.im.val, .n 6 s.y.re.val, .n 6 s.y.im.val, .n 6 s.z.re.val, .n 6 s.z.im.val], nv 4 [k], .pointer (some ⟨(γ1 0), 0, none⟩), .pointer (some ⟨(γ1 1), 0, none⟩), .pointer (some ⟨(γ1 2), 0, none⟩), .pointer (some ⟨(γ6 0), 0, none⟩), .int .i64 ((L : Int) - 1 - ((L : Nat) : Int)), sv [.n 6 (((T 0).x).re.val), .n 6 (((T 0).x).im.val), .n 6 (((T 0).y).re.val), .n 6 (((T 0).y).im.val), .n 6 (((T 0).z).re.val), .n 6 (((T 0).z).im.val)], nv 4 [k], .int .i64 ((L : Nat) : Int), .int .i64 ((L : Int) - 1 - ((0 : Nat) : Int)), .int .i64 ((L : Int) - 1 - ((L : Nat) : Int)), .bool false, i59_13, i59_14, i59_15, i59_16, i59_17, i59_18, i59_19, i59_20, i59_21, i59_22, i59_23, i59_24, i59_25, i59_26, i59_27, i59_28, sv [.n 6 (((T L).x).re.val), .n 6 (((T L).x).im.val), .n 6 (((T L).y).re.val), .n 6 (((T L).y).im.val), .n 6 (((T L).z).re.val), .n 6 (((T L).z).im.val)]], []⟩) 1 ((γ1 2)) 0 (segs [.n 6 (((T L).x).re.val), .n 6 (((T L).x).im.val), .n 6 (((T L).y).re.val), .n 6 (((T L).y).im.val), .n 6 (((T L).z).re.val), .n 6 (((T L).z).im.val)]) 0 (fun _ => 0) (fun _ => 0) (fun _ => 0) (fun _ => []) (fun _ => []) [29] (.inr ⟨rfl, by kernel_rfl⟩) (by kernel_rfl) rfl rfl rfl ?_ ?_)
    · refine GSteps.cons (late_step (gm_val (v := sv [.n 6 (((T L).x).re.val), .n 6 (((T L).x).im.val), .n 6 (((T L).y).re.val), .n 6 (((T L).y).im.val), .n 6 (((T L).z).re.val), .n 6 (((T L).z).im.val)]) rfl (fun _ => rfl) (fun _ => rfl) (fun γ w h => ex_loads 0 6 (m := [.n 6 (((T L).x).re.val), .n 6 (((T L).x).im.val), .n 6 (((T L).y).re.val), .n 6 (((T L).y).im.val), .n 6 (((T L).z).re.val), .n 6 (((T L).z).im.val)]) flPG2 rfl rfl (A64.keep h.out) rfl rfl) rfl) (by kernel_rfl) rfl) ?_
      refine GSteps.cons (late_store rfl (fun _ => rfl) (fun γ w h => ex_stores 0 6 (l := [.n 6 0, .n 6 0, .n 6 0, .n 6 0, .n 6 0, .n 6 0]) (m := [.n 6 (((T L).x).re.val), .n 6 (((T L).x).im.val), .n 6 (((T L).y).re.val), .n 6 (((T L).y).im.val), .n 6 (((T L).z).re.val), .n 6 (((T L).z).im.val)]) flPG2.2 rfl rfl rfl rfl (A63.keep h.out) rfl rfl) rfl) ?_
      exact GSteps.nil
    intro _ w66 w66_ hb66 _ _ hs66
    refine th_r ?_
    have A67 := A61.keep hb66.out
    have A68 := A62.keep hb66.out
    have A69 := A63.keep hb66.out
    have A70 := A64.keep hb66.out
    have HB71 := below_then HB65 hb66.out
    have A72 := hs66.other (hn1 0 2 (by decide) (by decide) (by decide)) A67
    have A73 := hs66.other (hn1 1 2 (by decide) (by decide) (by decide)) A68
    have A74 := hs66.here 0 6 (l' := [.n 6 (((T L).x).re.val), .n 6 (((T L).x).im.val), .n 6 (((T L).y).re.val), .n 6 (((T L).y).im.val), .n 6 (((T L).z).re.val), .n 6 (((T L).z).im.val)]) A69 rfl rfl rfl
    have A75 := hs66.other (Ne.symm (Nat.ne_of_lt (Nat.lt_of_lt_of_le A4.lt le10))) A70
    have HB76 := hs66.below HB71 (Nat.le_trans (Nat.le_refl _) le4)
    exact wp_ret (bodyPost_ret (ret1 Try.results32 (res_sv rfl A74 flPG2 rfl)) rfl ⟨rfl, HB76⟩)

theorem twotimes_q {s : Tri Zq} {P : E2} (hs : s.Is P.pt) {k : Nat} (hk : k < frB) : ∃ u : Tri Zq, u.Is (EP.times C2 k P).pt ∧ ∀ w, Calls Try.prog 32 #[sv [.n 6 s.x.re.val, .n 6 s.x.im.val, .n 6 s.y.re.val, .n 6 s.y.im.val, .n 6 s.z.re.val, .n 6 s.z.im.val], nv 4 [k]] w (Is (sv [.n 6 u.x.re.val, .n 6 u.x.im.val, .n 6 u.y.re.val, .n 6 u.y.im.val, .n 6 u.z.re.val, .n 6 u.z.im.val]) w) := by
  obtain ⟨L, h1, h2, h3⟩ := twolength_q hk
  have h := twoT_is hs h2 L (Nat.le_refl _)
  rw [Nat.sub_self, Nat.pow_zero, Nat.div_one] at h
  exact ⟨_, h, fun w => twotimes_v s k L h1 h3 w⟩

set_option maxRecDepth 20000 in
set_option maxHeartbeats 4000000 in
theorem twoMul_p (P R : E2) (k : Nat) (hk : k < frB) (hs : EP.times C2 k P = R) (w : World) :
    Calls Try.prog 19 #[sv [.n 6 (bx0 P.pt), .n 6 (bx1 P.pt), .n 6 (by0 P.pt), .n 6 (by1 P.pt), .b (bi P.pt)], nv 4 [k]] w (Is (.tuple #[sv [.n 6 (bx0 R.pt), .n 6 (bx1 R.pt), .n 6 (by0 R.pt), .n 6 (by1 R.pt), .b (bi R.pt)], .int .i64 0]) w) := by
  obtain ⟨u, hR, hu⟩ := twotimes_q (twoTri_is P.pt) hk
  rw [hs] at hR
  go_enter Try.func19, Try.ntmps19
  refine wp_seq (region_m (F := fun γ => ⟨#[sv [.n 6 (bx0 P.pt), .n 6 (bx1 P.pt), .n 6 (by0 P.pt), .n 6 (by1 P.pt), .b (bi P.pt)], nv 4 [k], .pointer (some ⟨γ 0, 0, none⟩), .pointer (some ⟨γ 1, 0, none⟩), .pointer (some ⟨γ 2, 0, none⟩), .int .i64 0, undef, undef, undef, undef, undef, undef, undef, undef, undef], []⟩) 3 (fun j_ => match j_ with | 0 => 28 | 1 => 44 | _ => 28) (fun j_ => match j_ with | 0 => 0 | 1 => 1 | _ => 2) (fun j_ => match j_ with | 0 => 0 | 1 => 1 | _ => 2) (fun j_ => match j_ with | 0 => segs [.n 6 (bx0 P.pt), .n 6 (bx1 P.pt), .n 6 (by0 P.pt), .n 6 (by1 P.pt), .b (bi P.pt)] | 1 => segs [.n 4 k] | _ => segs [.n 6 0, .n 6 0, .n 6 0, .n 6 0, .b false]) (fun j_ => match j_ with | 0 => segs [.n 6 (bx0 P.pt), .n 6 (bx1 P.pt), .n 6 (by0 P.pt), .n 6 (by1 P.pt), .b (bi P.pt)] | 1 => segs [.n 4 k] | _ => segs [.n 6 0, .n 6 0, .n 6 0, .n 6 0, .b false]) [2, 3, 4, 5] (.inr ⟨rfl, by kernel_rfl⟩) (by kernel_rfl) rfl rfl rfl ?_ ?_)
  · refine GSteps.cons (gm_box 0 rfl (fun _ => rfl) (fun _ _ => rfl) (fun γ w h => ex_boxs (l := [.n 6 (bx0 P.pt), .n 6 (bx1 P.pt), .n 6 (by0 P.pt), .n 6 (by1 P.pt), .b (bi P.pt)]) rfl) rfl rfl rfl) ?_
    refine GSteps.cons (gm_box 1 rfl (fun _ => rfl) (fun _ _ => rfl) (fun γ w h => ex_boxsn (K := 4) (l := [k]) rfl) rfl rfl rfl) ?_
    refine GSteps.cons (gm_box 2 rfl (fun _ => rfl) (fun _ _ => rfl) (fun γ w h => ex_allocs (l := [.n 6 0, .n 6 0, .n 6 0, .n 6 0, .b false]) zG2) rfl rfl rfl) ?_
    refine GSteps.cons (gm_val (v := .int .i64 0) rfl (fun _ => rfl) (fun _ => rfl) (fun γ w h => ex_assign _) rfl) ?_
    exact GSteps.nil
  intro γ1 w1 hb1 hB1 hn1
  refine th_r ?_
  have A2 : SB 28 w1 (γ1 0) [.n 6 (bx0 P.pt), .n 6 (bx1 P.pt), .n 6 (by0 P.pt), .n 6 (by1 P.pt), .b (bi P.pt)] := (hB1 0 (by decide)).2
  have le2 := (hB1 0 (by decide)).1
  have A3 : SB 44 w1 (γ1 1) [.n 4 k] := (hB1 1 (by decide)).2
  have le3 := (hB1 1 (by decide)).1
  have A4 : SB 28 w1 (γ1 2) [.n 6 0, .n 6 0, .n 6 0, .n 6 0, .b false] := (hB1 2 (by decide)).2
  have le4 := (hB1 2 (by decide)).1
  have HB5 := below_then (Below.refl w.heap.size w) hb1.out
  refine wp_seq ?_
  refine wp_seq (region_m (F := fun _ => ⟨#[sv [.n 6 (bx0 P.pt), .n 6 (bx1 P.pt), .n 6 (by0 P.pt), .n 6 (by1 P.pt), .b (bi P.pt)], nv 4 [k], .pointer (some ⟨(γ1 0), 0, none⟩), .pointer (some ⟨(γ1 1), 0, none⟩), .pointer (some ⟨(γ1 2), 0, none⟩), .int .i64 0, sv [.n 6 (bx0 P.pt), .n 6 (bx1 P.pt), .n 6 (by0 P.pt), .n 6 (by1 P.pt), .b (bi P.pt)], .bool true, .bool false, undef, undef, undef, undef, undef, undef], []⟩) 0 (fun _ => 0) (fun _ => 0) (fun _ => 0) (fun _ => []) (fun _ => []) [6, 7, 8] (.inr ⟨rfl, by kernel_rfl⟩) (by kernel_rfl) rfl rfl rfl ?_ ?_)
  · refine GSteps.cons (gm_val (v := sv [.n 6 (bx0 P.pt), .n 6 (bx1 P.pt), .n 6 (by0 P.pt), .n 6 (by1 P.pt), .b (bi P.pt)]) rfl (fun _ => rfl) (fun _ => rfl) (fun γ w h => ex_loads 0 5 (m := [.n 6 (bx0 P.pt), .n 6 (bx1 P.pt), .n 6 (by0 P.pt), .n 6 (by1 P.pt), .b (bi P.pt)]) flG2 rfl rfl (A2.keep h.out) rfl rfl) rfl) ?_
    refine GSteps.cons (gm_call (v := .bool true) rfl (fun _ => rfl) (fun _ => rfl) (fun γ w => ex_call (vs := [sv [.n 6 (bx0 P.pt), .n 6 (bx1 P.pt), .n 6 (by0 P.pt), .n 6 (by1 P.pt), .b (bi P.pt)]]) rfl Try.call7 rfl) (fun w h => twoRight_p P _) rfl) ?_
    refine GSteps.cons (gm_val (v := .bool false) rfl (fun _ => rfl) (fun _ => rfl) (fun γ w h => ex_not (r := true) rfl) rfl) ?_
    exact GSteps.nil
  intro _ w6 hb6 _ _
  refine th_r ?_
  have A7 := A2.keep hb6.out
  have A8 := A3.keep hb6.out
  have A9 := A4.keep hb6.out
  have HB10 := below_then HB5 hb6.out
  refine wp_cond_false rfl ?_
  refine wp_skip ?_
  refine th_r ?_
  refine wp_seq (region_ms (F := fun _ => ⟨#[sv [.n 6 (bx0 P.pt), .n 6 (bx1 P.pt), .n 6 (by0 P.pt), .n 6 (by1 P.pt), .b (bi P.pt)], nv 4 [k], .pointer (some ⟨(γ1 0), 0, none⟩), .pointer (some ⟨(γ1 1), 0, none⟩), .pointer (some ⟨(γ1 2), 0, none⟩), .int .i64 0, sv [.n 6 (bx0 P.pt), .n 6 (bx1 P.pt), .n 6 (by0 P.pt), .n 6 (by1 P.pt), .b (bi P.pt)], .bool true, .bool false, undef, sv [.n 6 (bx0 P.pt), .n 6 (bx1 P.pt), .n 6 (by0 P.pt), .n 6 (by1 P.pt), .b (bi P.pt)], sv [.n 6 (((twoTri P.pt).x).re.val), .n 6 (((twoTri P.pt).x).im.val), .n 6 (((twoTri P.pt).y).re.val), .n 6 (((twoTri P.pt).y).im.val), .n 6 (((twoTri P.pt).z).re.val), .n 6 (((twoTri P.pt).z).im.val)], nv 4 [k], sv [.n 6 u.x.re.val, .n 6 u.x.im.val, .n 6 u.y.re.val, .n 6 u.y.im.val, .n 6 u.z.re.val, .n 6 u.z.im.val], sv [.n 6 (bx0 R.pt), .n 6 (bx1 R.pt), .n 6 (by0 R.pt), .n 6 (by1 R.pt), .b (bi R.pt)]], []⟩) 5 ((γ1 2)) 0 (segs [.n 6 (bx0 R.pt), .n 6 (bx1 R.pt), .n 6 (by0 R.pt), .n 6 (by1 R.pt), .b (bi R.pt)]) 0 (fun _ => 0) (fun _ => 0) (fun _ => 0) (fun _ => []) (fun _ => []) [10, 11, 12, 13, 14, 5] (.inl ⟨rfl, by kernel_rfl⟩) (by kernel_rfl) rfl rfl rfl ?_ ?_)
  · refine GSteps.cons (late_step (gm_val (v := sv [.n 6 (bx0 P.pt), .n 6 (bx1 P.pt), .n 6 (by0 P.pt), .n 6 (by1 P.pt), .b (bi P.pt)]) rfl (fun _ => rfl) (fun _ => rfl) (fun γ w h => ex_loads 0 5 (m := [.n 6 (bx0 P.pt), .n 6 (bx1 P.pt), .n 6 (by0 P.pt), .n 6 (by1 P.pt), .b (bi P.pt)]) flG2 rfl rfl (A7.keep h.out) rfl rfl) rfl) (by kernel_rfl) rfl) ?_
    refine GSteps.cons (late_step (gm_call (v := sv [.n 6 (((twoTri P.pt).x).re.val), .n 6 (((twoTri P.pt).x).im.val), .n 6 (((twoTri P.pt).y).re.val), .n 6 (((twoTri P.pt).y).im.val), .n 6 (((twoTri P.pt).z).re.val), .n 6 (((twoTri P.pt).z).im.val)]) rfl (fun _ => rfl) (fun _ => rfl) (fun γ w => ex_call (vs := [sv [.n 6 (bx0 P.pt), .n 6 (bx1 P.pt), .n 6 (by0 P.pt), .n 6 (by1 P.pt), .b (bi P.pt)]]) rfl Try.call31 rfl) (fun w h => twobring_q P.pt _) rfl) (by kernel_rfl) rfl) ?_
    refine GSteps.cons (late_step (gm_val (v := nv 4 [k]) rfl (fun _ => rfl) (fun _ => rfl) (fun γ w h => ex_loadsn (K := 4) 0 1 (m := [k]) flFr rfl rfl (A8.keep h.out) rfl rfl) rfl) (by kernel_rfl) rfl) ?_
    refine GSteps.cons (late_step (gm_call (v := sv [.n 6 u.x.re.val, .n 6 u.x.im.val, .n 6 u.y.re.val, .n 6 u.y.im.val, .n 6 u.z.re.val, .n 6 u.z.im.val]) rfl (fun _ => rfl) (fun _ => rfl) (fun γ w => ex_call (vs := [sv [.n 6 (((twoTri P.pt).x).re.val), .n 6 (((twoTri P.pt).x).im.val), .n 6 (((twoTri P.pt).y).re.val), .n 6 (((twoTri P.pt).y).im.val), .n 6 (((twoTri P.pt).z).re.val), .n 6 (((twoTri P.pt).z).im.val)], nv 4 [k]]) rfl Try.call32 rfl) (fun w h => hu _) rfl) (by kernel_rfl) rfl) ?_
    refine GSteps.cons (late_step (gm_call (v := sv [.n 6 (bx0 R.pt), .n 6 (bx1 R.pt), .n 6 (by0 R.pt), .n 6 (by1 R.pt), .b (bi R.pt)]) rfl (fun _ => rfl) (fun _ => rfl) (fun γ w => ex_call (vs := [sv [.n 6 u.x.re.val, .n 6 u.x.im.val, .n 6 u.y.re.val, .n 6 u.y.im.val, .n 6 u.z.re.val, .n 6 u.z.im.val]]) rfl Try.call33 rfl) (fun w h => twoback_q hR _) rfl) (by kernel_rfl) rfl) ?_
    refine GSteps.cons (late_store rfl (fun _ => rfl) (fun γ w h => ex_stores 0 5 (l := [.n 6 0, .n 6 0, .n 6 0, .n 6 0, .b false]) (m := [.n 6 (bx0 R.pt), .n 6 (bx1 R.pt), .n 6 (by0 R.pt), .n 6 (by1 R.pt), .b (bi R.pt)]) flG2.2 rfl rfl rfl rfl (A9.keep h.out) rfl rfl) rfl) ?_
    refine GSteps.cons (late_free (v := .int .i64 0) rfl (fun _ => rfl) (fun _ => rfl) (fun γ w => ex_assign _) rfl rfl) ?_
    exact GSteps.nil
  intro _ w11 w11_ hb11 _ _ hs11
  refine th_r ?_
  have A12 := A7.keep hb11.out
  have A13 := A8.keep hb11.out
  have A14 := A9.keep hb11.out
  have HB15 := below_then HB10 hb11.out
  have A16 := hs11.other (hn1 0 2 (by decide) (by decide) (by decide)) A12
  have A17 := hs11.other (hn1 1 2 (by decide) (by decide) (by decide)) A13
  have A18 := hs11.here 0 5 (l' := [.n 6 (bx0 R.pt), .n 6 (bx1 R.pt), .n 6 (by0 R.pt), .n 6 (by1 R.pt), .b (bi R.pt)]) A14 rfl rfl rfl
  have HB19 := hs11.below HB15 (Nat.le_trans (Nat.le_refl _) le4)
  exact wp_ret (bodyPost_ret (ret2 Try.results19 (res_sv rfl A18 flG2 rfl) (res_tmp rfl)) rfl ⟨rfl, HB19⟩)

set_option maxRecDepth 20000 in
set_option maxHeartbeats 4000000 in
theorem twoMul_n (x0 : Nat) (x1 : Nat) (y0 : Nat) (y1 : Nat) (i : Bool) (hx0 : x0 < fpB) (hx1 : x1 < fpB) (hy0 : y0 < fpB) (hy1 : y1 < fpB) (h0 : ¬ RawOk2 x0 x1 y0 y1 i) (k : Nat) (w : World) :
    Calls Try.prog 19 #[sv [.n 6 x0, .n 6 x1, .n 6 y0, .n 6 y1, .b i], nv 4 [k]] w (Is (.tuple #[sv [.n 6 0, .n 6 0, .n 6 0, .n 6 0, .b false], .int .i64 30]) w) := by
  go_enter Try.func19, Try.ntmps19
  refine wp_seq (region_m (F := fun γ => ⟨#[sv [.n 6 x0, .n 6 x1, .n 6 y0, .n 6 y1, .b i], nv 4 [k], .pointer (some ⟨γ 0, 0, none⟩), .pointer (some ⟨γ 1, 0, none⟩), .pointer (some ⟨γ 2, 0, none⟩), .int .i64 0, undef, undef, undef, undef, undef, undef, undef, undef, undef], []⟩) 3 (fun j_ => match j_ with | 0 => 28 | 1 => 44 | _ => 28) (fun j_ => match j_ with | 0 => 0 | 1 => 1 | _ => 2) (fun j_ => match j_ with | 0 => 0 | 1 => 1 | _ => 2) (fun j_ => match j_ with | 0 => segs [.n 6 x0, .n 6 x1, .n 6 y0, .n 6 y1, .b i] | 1 => segs [.n 4 k] | _ => segs [.n 6 0, .n 6 0, .n 6 0, .n 6 0, .b false]) (fun j_ => match j_ with | 0 => segs [.n 6 x0, .n 6 x1, .n 6 y0, .n 6 y1, .b i] | 1 => segs [.n 4 k] | _ => segs [.n 6 0, .n 6 0, .n 6 0, .n 6 0, .b false]) [2, 3, 4, 5] (.inr ⟨rfl, by kernel_rfl⟩) (by kernel_rfl) rfl rfl rfl ?_ ?_)
  · refine GSteps.cons (gm_box 0 rfl (fun _ => rfl) (fun _ _ => rfl) (fun γ w h => ex_boxs (l := [.n 6 x0, .n 6 x1, .n 6 y0, .n 6 y1, .b i]) rfl) rfl rfl rfl) ?_
    refine GSteps.cons (gm_box 1 rfl (fun _ => rfl) (fun _ _ => rfl) (fun γ w h => ex_boxsn (K := 4) (l := [k]) rfl) rfl rfl rfl) ?_
    refine GSteps.cons (gm_box 2 rfl (fun _ => rfl) (fun _ _ => rfl) (fun γ w h => ex_allocs (l := [.n 6 0, .n 6 0, .n 6 0, .n 6 0, .b false]) zG2) rfl rfl rfl) ?_
    refine GSteps.cons (gm_val (v := .int .i64 0) rfl (fun _ => rfl) (fun _ => rfl) (fun γ w h => ex_assign _) rfl) ?_
    exact GSteps.nil
  intro γ1 w1 hb1 hB1 hn1
  refine th_r ?_
  have A2 : SB 28 w1 (γ1 0) [.n 6 x0, .n 6 x1, .n 6 y0, .n 6 y1, .b i] := (hB1 0 (by decide)).2
  have le2 := (hB1 0 (by decide)).1
  have A3 : SB 44 w1 (γ1 1) [.n 4 k] := (hB1 1 (by decide)).2
  have le3 := (hB1 1 (by decide)).1
  have A4 : SB 28 w1 (γ1 2) [.n 6 0, .n 6 0, .n 6 0, .n 6 0, .b false] := (hB1 2 (by decide)).2
  have le4 := (hB1 2 (by decide)).1
  have HB5 := below_then (Below.refl w.heap.size w) hb1.out
  refine wp_seq ?_
  refine wp_seq (region_m (F := fun _ => ⟨#[sv [.n 6 x0, .n 6 x1, .n 6 y0, .n 6 y1, .b i], nv 4 [k], .pointer (some ⟨(γ1 0), 0, none⟩), .pointer (some ⟨(γ1 1), 0, none⟩), .pointer (some ⟨(γ1 2), 0, none⟩), .int .i64 0, sv [.n 6 x0, .n 6 x1, .n 6 y0, .n 6 y1, .b i], .bool false, .bool true, undef, undef, undef, undef, undef, undef], []⟩) 0 (fun _ => 0) (fun _ => 0) (fun _ => 0) (fun _ => []) (fun _ => []) [6, 7, 8] (.inr ⟨rfl, by kernel_rfl⟩) (by kernel_rfl) rfl rfl rfl ?_ ?_)
  · refine GSteps.cons (gm_val (v := sv [.n 6 x0, .n 6 x1, .n 6 y0, .n 6 y1, .b i]) rfl (fun _ => rfl) (fun _ => rfl) (fun γ w h => ex_loads 0 5 (m := [.n 6 x0, .n 6 x1, .n 6 y0, .n 6 y1, .b i]) flG2 rfl rfl (A2.keep h.out) rfl rfl) rfl) ?_
    refine GSteps.cons (gm_call (v := .bool false) rfl (fun _ => rfl) (fun _ => rfl) (fun γ w => ex_call (vs := [sv [.n 6 x0, .n 6 x1, .n 6 y0, .n 6 y1, .b i]]) rfl Try.call7 rfl) (fun w h => twoRight_no hx0 hx1 hy0 hy1 h0 _) rfl) ?_
    refine GSteps.cons (gm_val (v := .bool true) rfl (fun _ => rfl) (fun _ => rfl) (fun γ w h => ex_not (r := false) rfl) rfl) ?_
    exact GSteps.nil
  intro _ w6 hb6 _ _
  refine th_r ?_
  have A7 := A2.keep hb6.out
  have A8 := A3.keep hb6.out
  have A9 := A4.keep hb6.out
  have HB10 := below_then HB5 hb6.out
  refine wp_cond_true rfl ?_
  refine wp_seq (region_ms (F := fun _ => ⟨#[sv [.n 6 x0, .n 6 x1, .n 6 y0, .n 6 y1, .b i], nv 4 [k], .pointer (some ⟨(γ1 0), 0, none⟩), .pointer (some ⟨(γ1 1), 0, none⟩), .pointer (some ⟨(γ1 2), 0, none⟩), .int .i64 30, sv [.n 6 x0, .n 6 x1, .n 6 y0, .n 6 y1, .b i], .bool false, .bool true, sv [.n 6 0, .n 6 0, .n 6 0, .n 6 0, .b false], undef, undef, undef, undef, undef], []⟩) 1 ((γ1 2)) 0 (segs [.n 6 0, .n 6 0, .n 6 0, .n 6 0, .b false]) 0 (fun _ => 0) (fun _ => 0) (fun _ => 0) (fun _ => []) (fun _ => []) [9, 5] (.inr ⟨rfl, by kernel_rfl⟩) (by kernel_rfl) rfl rfl rfl ?_ ?_)
  · refine GSteps.cons (late_step (gm_val (v := sv [.n 6 0, .n 6 0, .n 6 0, .n 6 0, .b false]) rfl (fun _ => rfl) (fun _ => rfl) (fun γ w h => ex_builds stG2 (l := [.n 6 0, .n 6 0, .n 6 0, .n 6 0, .b false]) (vs := []) rfl rfl) rfl) (by kernel_rfl) rfl) ?_
    refine GSteps.cons (late_store rfl (fun _ => rfl) (fun γ w h => ex_stores 0 5 (l := [.n 6 0, .n 6 0, .n 6 0, .n 6 0, .b false]) (m := [.n 6 0, .n 6 0, .n 6 0, .n 6 0, .b false]) flG2.2 rfl rfl rfl rfl (A9.keep h.out) rfl rfl) rfl) ?_
    refine GSteps.cons (late_free (v := .int .i64 30) rfl (fun _ => rfl) (fun _ => rfl) (fun γ w => ex_assign _) rfl rfl) ?_
    exact GSteps.nil
  intro _ w11 w11_ hb11 _ _ hs11
  refine th_r ?_
  have A12 := A7.keep hb11.out
  have A13 := A8.keep hb11.out
  have A14 := A9.keep hb11.out
  have HB15 := below_then HB10 hb11.out
  have A16 := hs11.other (hn1 0 2 (by decide) (by decide) (by decide)) A12
  have A17 := hs11.other (hn1 1 2 (by decide) (by decide) (by decide)) A13
  have A18 := hs11.here 0 5 (l' := [.n 6 0, .n 6 0, .n 6 0, .n 6 0, .b false]) A14 rfl rfl rfl
  have HB19 := hs11.below HB15 (Nat.le_trans (Nat.le_refl _) le4)
  exact wp_ret (th_ret (bodyPost_ret (ret2 Try.results19 (res_sv rfl A18 flG2 rfl) (res_tmp rfl)) rfl ⟨rfl, HB19⟩))

theorem rN_B2 : rN < frB := by decide +kernel
set_option maxRecDepth 20000 in
set_option maxHeartbeats 4000000 in
theorem twoGroup_v (P R : E2) (hs : EP.times C2 rN P = R) (w : World) :
    Calls Try.prog 8 #[sv [.n 6 (bx0 P.pt), .n 6 (bx1 P.pt), .n 6 (by0 P.pt), .n 6 (by1 P.pt), .b (bi P.pt)]] w (Is (.bool (bi R.pt)) w) := by
  go_enter Try.func8, Try.ntmps8
  refine wp_seq (region_m (F := fun γ => ⟨#[sv [.n 6 (bx0 P.pt), .n 6 (bx1 P.pt), .n 6 (by0 P.pt), .n 6 (by1 P.pt), .b (bi P.pt)], .pointer (some ⟨γ 0, 0, none⟩), .bool false, undef, undef, undef, undef, undef, undef, undef, undef, undef, undef, undef, undef, undef, undef], []⟩) 1 (fun _ => 28) (fun _ => 0) (fun _ => 0) (fun _ => segs [.n 6 (bx0 P.pt), .n 6 (bx1 P.pt), .n 6 (by0 P.pt), .n 6 (by1 P.pt), .b (bi P.pt)]) (fun _ => segs [.n 6 (bx0 P.pt), .n 6 (bx1 P.pt), .n 6 (by0 P.pt), .n 6 (by1 P.pt), .b (bi P.pt)]) [1, 2] (.inr ⟨rfl, by kernel_rfl⟩) (by kernel_rfl) rfl rfl rfl ?_ ?_)
  · refine GSteps.cons (gm_box 0 rfl (fun _ => rfl) (fun _ _ => rfl) (fun γ w h => ex_boxs (l := [.n 6 (bx0 P.pt), .n 6 (bx1 P.pt), .n 6 (by0 P.pt), .n 6 (by1 P.pt), .b (bi P.pt)]) rfl) rfl rfl rfl) ?_
    refine GSteps.cons (gm_val (v := .bool false) rfl (fun _ => rfl) (fun _ => rfl) (fun γ w h => ex_assign _) rfl) ?_
    exact GSteps.nil
  intro γ1 w1 hb1 hB1 _
  refine th_r ?_
  have A2 : SB 28 w1 (γ1 0) [.n 6 (bx0 P.pt), .n 6 (bx1 P.pt), .n 6 (by0 P.pt), .n 6 (by1 P.pt), .b (bi P.pt)] := (hB1 0 (by decide)).2
  have le2 := (hB1 0 (by decide)).1
  have HB3 := below_then (Below.refl w.heap.size w) hb1.out
  refine wp_seq (region_m (F := fun γ => ⟨#[sv [.n 6 (bx0 P.pt), .n 6 (bx1 P.pt), .n 6 (by0 P.pt), .n 6 (by1 P.pt), .b (bi P.pt)], .pointer (some ⟨(γ1 0), 0, none⟩), .bool false, .pointer (some ⟨γ 0, 0, none⟩), .int .i64 0, .tuple #[sv [.n 6 (bx0 R.pt), .n 6 (bx1 R.pt), .n 6 (by0 R.pt), .n 6 (by1 R.pt), .b (bi R.pt)], .int .i64 0], sv [.n 6 (bx0 P.pt), .n 6 (bx1 P.pt), .n 6 (by0 P.pt), .n 6 (by1 P.pt), .b (bi P.pt)], nv 4 [rN], .tuple #[sv [.n 6 (bx0 R.pt), .n 6 (bx1 R.pt), .n 6 (by0 R.pt), .n 6 (by1 R.pt), .b (bi R.pt)], .int .i64 0], sv [.n 6 (bx0 R.pt), .n 6 (bx1 R.pt), .n 6 (by0 R.pt), .n 6 (by1 R.pt), .b (bi R.pt)], .int .i64 0, undef, undef, undef, undef, undef, undef], []⟩) 1 (fun _ => 28) (fun _ => 6) (fun _ => 7) (fun _ => segs [.n 6 0, .n 6 0, .n 6 0, .n 6 0, .b false]) (fun _ => segs [.n 6 (bx0 R.pt), .n 6 (bx1 R.pt), .n 6 (by0 R.pt), .n 6 (by1 R.pt), .b (bi R.pt)]) [6, 7, 8, 5, 9, 10, 3, 4] (.inl ⟨rfl, by kernel_rfl⟩) (by kernel_rfl) rfl rfl rfl ?_ ?_)
  · refine GSteps.cons (gm_val (v := sv [.n 6 (bx0 P.pt), .n 6 (bx1 P.pt), .n 6 (by0 P.pt), .n 6 (by1 P.pt), .b (bi P.pt)]) rfl (fun _ => rfl) (fun _ => rfl) (fun γ w h => ex_loads 0 5 (m := [.n 6 (bx0 P.pt), .n 6 (bx1 P.pt), .n 6 (by0 P.pt), .n 6 (by1 P.pt), .b (bi P.pt)]) flG2 rfl rfl (A2.keep h.out) rfl rfl) rfl) ?_
    refine GSteps.cons (gm_call (v := nv 4 [rN]) rfl (fun _ => rfl) (fun _ => rfl) (fun γ w => ex_call (vs := []) rfl Try.call20 rfl) (fun w h => twoorder_v _) rfl) ?_
    refine GSteps.cons (gm_call (v := .tuple #[sv [.n 6 (bx0 R.pt), .n 6 (bx1 R.pt), .n 6 (by0 R.pt), .n 6 (by1 R.pt), .b (bi R.pt)], .int .i64 0]) rfl (fun _ => rfl) (fun _ => rfl) (fun γ w => ex_call (vs := [sv [.n 6 (bx0 P.pt), .n 6 (bx1 P.pt), .n 6 (by0 P.pt), .n 6 (by1 P.pt), .b (bi P.pt)], nv 4 [rN]]) rfl Try.call19 rfl) (fun w h => twoMul_p P R rN rN_B2 hs _) rfl) ?_
    refine GSteps.cons (gm_val (v := .tuple #[sv [.n 6 (bx0 R.pt), .n 6 (bx1 R.pt), .n 6 (by0 R.pt), .n 6 (by1 R.pt), .b (bi R.pt)], .int .i64 0]) rfl (fun _ => rfl) (fun _ => rfl) (fun γ w h => ex_move _) rfl) ?_
    refine GSteps.cons (gm_val (v := sv [.n 6 (bx0 R.pt), .n 6 (bx1 R.pt), .n 6 (by0 R.pt), .n 6 (by1 R.pt), .b (bi R.pt)]) rfl (fun _ => rfl) (fun _ => rfl) (fun γ w h => ex_extract (vs := [sv [.n 6 (bx0 R.pt), .n 6 (bx1 R.pt), .n 6 (by0 R.pt), .n 6 (by1 R.pt), .b (bi R.pt)], .int .i64 0]) rfl rfl) rfl) ?_
    refine GSteps.cons (gm_val (v := .int .i64 0) rfl (fun _ => rfl) (fun _ => rfl) (fun γ w h => ex_extract (vs := [sv [.n 6 (bx0 R.pt), .n 6 (bx1 R.pt), .n 6 (by0 R.pt), .n 6 (by1 R.pt), .b (bi R.pt)], .int .i64 0]) rfl rfl) rfl) ?_
    refine GSteps.cons (gm_new 0 rfl (fun _ => rfl) (fun _ _ => rfl) (fun γ w => ex_allocs (l := [.n 6 0, .n 6 0, .n 6 0, .n 6 0, .b false]) zG2) rfl (by kernel_rfl)) ?_
    refine GSteps.cons (gm_store 0 rfl rfl (fun _ => rfl) (len_segs (l := [.n 6 (bx0 R.pt), .n 6 (bx1 R.pt), .n 6 (by0 R.pt), .n 6 (by1 R.pt), .b (bi R.pt)]) (l' := [.n 6 0, .n 6 0, .n 6 0, .n 6 0, .b false]) rfl) (fun γ w h => ex_stores 0 5 (l := [.n 6 0, .n 6 0, .n 6 0, .n 6 0, .b false]) (m := [.n 6 (bx0 R.pt), .n 6 (bx1 R.pt), .n 6 (by0 R.pt), .n 6 (by1 R.pt), .b (bi R.pt)]) flG2.2 rfl rfl rfl rfl h rfl rfl) rfl rfl (by kernel_rfl)) ?_
    refine GSteps.cons (gm_val (v := .int .i64 0) rfl (fun _ => rfl) (fun _ => rfl) (fun γ w h => ex_assign _) rfl) ?_
    exact GSteps.nil
  intro γ4 w4 hb4 hB4 _
  refine th_r ?_
  have A5 := A2.keep hb4.out
  have A6 : SB 28 w4 (γ4 0) [.n 6 (bx0 R.pt), .n 6 (bx1 R.pt), .n 6 (by0 R.pt), .n 6 (by1 R.pt), .b (bi R.pt)] := (hB4 0 (by decide)).2
  have le6 := (hB4 0 (by decide)).1
  have HB7 := below_then HB3 hb4.out
  refine wp_seq (region_m (F := fun _ => ⟨#[sv [.n 6 (bx0 P.pt), .n 6 (bx1 P.pt), .n 6 (by0 P.pt), .n 6 (by1 P.pt), .b (bi P.pt)], .pointer (some ⟨(γ1 0), 0, none⟩), .bool (bi R.pt), .pointer (some ⟨(γ4 0), 0, none⟩), .int .i64 0, .tuple #[sv [.n 6 (bx0 R.pt), .n 6 (bx1 R.pt), .n 6 (by0 R.pt), .n 6 (by1 R.pt), .b (bi R.pt)], .int .i64 0], sv [.n 6 (bx0 P.pt), .n 6 (bx1 P.pt), .n 6 (by0 P.pt), .n 6 (by1 P.pt), .b (bi P.pt)], nv 4 [rN], .tuple #[sv [.n 6 (bx0 R.pt), .n 6 (bx1 R.pt), .n 6 (by0 R.pt), .n 6 (by1 R.pt), .b (bi R.pt)], .int .i64 0], sv [.n 6 (bx0 R.pt), .n 6 (bx1 R.pt), .n 6 (by0 R.pt), .n 6 (by1 R.pt), .b (bi R.pt)], .int .i64 0, .int .i64 0, .bool true, .bool true, .pointer (some ⟨(γ4 0), 24, none⟩), .bool (bi R.pt), .bool (bi R.pt)], []⟩) 0 (fun _ => 0) (fun _ => 0) (fun _ => 0) (fun _ => []) (fun _ => []) [11, 12, 13, 14, 15, 16, 2] (.inr ⟨rfl, by kernel_rfl⟩) (by kernel_rfl) rfl rfl rfl ?_ ?_)
  · refine GSteps.cons (gm_val (v := .int .i64 0) rfl (fun _ => rfl) (fun _ => rfl) (fun γ w h => ex_move _) rfl) ?_
    refine GSteps.cons (gm_val (v := .bool true) rfl (fun _ => rfl) (fun _ => rfl) (fun γ w h => ex_eqi rfl rfl _ rfl) rfl) ?_
    refine GSteps.cons (gm_val (v := .bool true) rfl (fun _ => rfl) (fun _ => rfl) (fun γ w h => ex_move _) rfl) ?_
    refine GSteps.cons (gm_valg (fun γ => .pointer (some ⟨(γ4 0), 24, none⟩)) rfl (fun _ => rfl) (fun _ => rfl) (fun γ w h => ex_field faG2_2 rfl) rfl) ?_
    refine GSteps.cons (gm_val (v := .bool (bi R.pt)) rfl (fun _ => rfl) (fun _ => rfl) (fun γ w h => ex_load1 4 (s := .b (bi R.pt)) (v := .bool (bi R.pt)) sgBool rfl (A6.keep h.out) rfl rfl rfl) rfl) ?_
    refine GSteps.cons (gm_val (v := .bool (bi R.pt)) rfl (fun _ => rfl) (fun _ => rfl) (fun γ w h => ex_pick (r := true) rfl) rfl) ?_
    refine GSteps.cons (gm_val (v := .bool (bi R.pt)) rfl (fun _ => rfl) (fun _ => rfl) (fun γ w h => ex_assign _) rfl) ?_
    exact GSteps.nil
  intro _ w8 hb8 _ _
  refine th_r ?_
  have A9 := A5.keep hb8.out
  have A10 := A6.keep hb8.out
  have HB11 := below_then HB7 hb8.out
  exact wp_ret (bodyPost_ret (ret1 Try.results8 (res_tmp rfl)) rfl ⟨rfl, HB11⟩)

theorem twoGroup_q (P : E2) (r : Bool) (hr : r = true ↔ EP.times C2 rN P = EP.zero) (w : World) : Calls Try.prog 8 #[sv [.n 6 (bx0 P.pt), .n 6 (bx1 P.pt), .n 6 (by0 P.pt), .n 6 (by1 P.pt), .b (bi P.pt)]] w (Is (.bool r) w) := by
  have h := twoGroup_v P _ rfl w
  have e : bi (EP.times C2 rN P).pt = r := by
    rw [Bool.eq_iff_iff, hr]
    constructor
    · intro h
      refine EP.ext' ?_
      generalize (EP.times C2 rN P).pt = Q at h ⊢
      cases Q with
      | inf => rfl
      | aff x y => cases h
    · intro h
      rw [h]
      rfl
  rw [e] at h
  exact h
set_option maxRecDepth 20000 in
set_option maxHeartbeats 4000000 in
theorem twoGroup_n (x0 : Nat) (x1 : Nat) (y0 : Nat) (y1 : Nat) (i : Bool) (hx0 : x0 < fpB) (hx1 : x1 < fpB) (hy0 : y0 < fpB) (hy1 : y1 < fpB) (h0 : ¬ RawOk2 x0 x1 y0 y1 i) (w : World) :
    Calls Try.prog 8 #[sv [.n 6 x0, .n 6 x1, .n 6 y0, .n 6 y1, .b i]] w (Is (.bool false) w) := by
  go_enter Try.func8, Try.ntmps8
  refine wp_seq (region_m (F := fun γ => ⟨#[sv [.n 6 x0, .n 6 x1, .n 6 y0, .n 6 y1, .b i], .pointer (some ⟨γ 0, 0, none⟩), .bool false, undef, undef, undef, undef, undef, undef, undef, undef, undef, undef, undef, undef, undef, undef], []⟩) 1 (fun _ => 28) (fun _ => 0) (fun _ => 0) (fun _ => segs [.n 6 x0, .n 6 x1, .n 6 y0, .n 6 y1, .b i]) (fun _ => segs [.n 6 x0, .n 6 x1, .n 6 y0, .n 6 y1, .b i]) [1, 2] (.inr ⟨rfl, by kernel_rfl⟩) (by kernel_rfl) rfl rfl rfl ?_ ?_)
  · refine GSteps.cons (gm_box 0 rfl (fun _ => rfl) (fun _ _ => rfl) (fun γ w h => ex_boxs (l := [.n 6 x0, .n 6 x1, .n 6 y0, .n 6 y1, .b i]) rfl) rfl rfl rfl) ?_
    refine GSteps.cons (gm_val (v := .bool false) rfl (fun _ => rfl) (fun _ => rfl) (fun γ w h => ex_assign _) rfl) ?_
    exact GSteps.nil
  intro γ1 w1 hb1 hB1 _
  refine th_r ?_
  have A2 : SB 28 w1 (γ1 0) [.n 6 x0, .n 6 x1, .n 6 y0, .n 6 y1, .b i] := (hB1 0 (by decide)).2
  have le2 := (hB1 0 (by decide)).1
  have HB3 := below_then (Below.refl w.heap.size w) hb1.out
  refine wp_seq (region_m (F := fun γ => ⟨#[sv [.n 6 x0, .n 6 x1, .n 6 y0, .n 6 y1, .b i], .pointer (some ⟨(γ1 0), 0, none⟩), .bool false, .pointer (some ⟨γ 0, 0, none⟩), .int .i64 30, .tuple #[sv [.n 6 0, .n 6 0, .n 6 0, .n 6 0, .b false], .int .i64 30], sv [.n 6 x0, .n 6 x1, .n 6 y0, .n 6 y1, .b i], nv 4 [rN], .tuple #[sv [.n 6 0, .n 6 0, .n 6 0, .n 6 0, .b false], .int .i64 30], sv [.n 6 0, .n 6 0, .n 6 0, .n 6 0, .b false], .int .i64 30, undef, undef, undef, undef, undef, undef], []⟩) 1 (fun _ => 28) (fun _ => 6) (fun _ => 7) (fun _ => segs [.n 6 0, .n 6 0, .n 6 0, .n 6 0, .b false]) (fun _ => segs [.n 6 0, .n 6 0, .n 6 0, .n 6 0, .b false]) [6, 7, 8, 5, 9, 10, 3, 4] (.inl ⟨rfl, by kernel_rfl⟩) (by kernel_rfl) rfl rfl rfl ?_ ?_)
  · refine GSteps.cons (gm_val (v := sv [.n 6 x0, .n 6 x1, .n 6 y0, .n 6 y1, .b i]) rfl (fun _ => rfl) (fun _ => rfl) (fun γ w h => ex_loads 0 5 (m := [.n 6 x0, .n 6 x1, .n 6 y0, .n 6 y1, .b i]) flG2 rfl rfl (A2.keep h.out) rfl rfl) rfl) ?_
    refine GSteps.cons (gm_call (v := nv 4 [rN]) rfl (fun _ => rfl) (fun _ => rfl) (fun γ w => ex_call (vs := []) rfl Try.call20 rfl) (fun w h => twoorder_v _) rfl) ?_
    refine GSteps.cons (gm_call (v := .tuple #[sv [.n 6 0, .n 6 0, .n 6 0, .n 6 0, .b false], .int .i64 30]) rfl (fun _ => rfl) (fun _ => rfl) (fun γ w => ex_call (vs := [sv [.n 6 x0, .n 6 x1, .n 6 y0, .n 6 y1, .b i], nv 4 [rN]]) rfl Try.call19 rfl) (fun w h => twoMul_n x0 x1 y0 y1 i hx0 hx1 hy0 hy1 h0 rN _) rfl) ?_
    refine GSteps.cons (gm_val (v := .tuple #[sv [.n 6 0, .n 6 0, .n 6 0, .n 6 0, .b false], .int .i64 30]) rfl (fun _ => rfl) (fun _ => rfl) (fun γ w h => ex_move _) rfl) ?_
    refine GSteps.cons (gm_val (v := sv [.n 6 0, .n 6 0, .n 6 0, .n 6 0, .b false]) rfl (fun _ => rfl) (fun _ => rfl) (fun γ w h => ex_extract (vs := [sv [.n 6 0, .n 6 0, .n 6 0, .n 6 0, .b false], .int .i64 30]) rfl rfl) rfl) ?_
    refine GSteps.cons (gm_val (v := .int .i64 30) rfl (fun _ => rfl) (fun _ => rfl) (fun γ w h => ex_extract (vs := [sv [.n 6 0, .n 6 0, .n 6 0, .n 6 0, .b false], .int .i64 30]) rfl rfl) rfl) ?_
    refine GSteps.cons (gm_new 0 rfl (fun _ => rfl) (fun _ _ => rfl) (fun γ w => ex_allocs (l := [.n 6 0, .n 6 0, .n 6 0, .n 6 0, .b false]) zG2) rfl (by kernel_rfl)) ?_
    refine GSteps.cons (gm_store 0 rfl rfl (fun _ => rfl) (len_segs (l := [.n 6 0, .n 6 0, .n 6 0, .n 6 0, .b false]) (l' := [.n 6 0, .n 6 0, .n 6 0, .n 6 0, .b false]) rfl) (fun γ w h => ex_stores 0 5 (l := [.n 6 0, .n 6 0, .n 6 0, .n 6 0, .b false]) (m := [.n 6 0, .n 6 0, .n 6 0, .n 6 0, .b false]) flG2.2 rfl rfl rfl rfl h rfl rfl) rfl rfl (by kernel_rfl)) ?_
    refine GSteps.cons (gm_val (v := .int .i64 30) rfl (fun _ => rfl) (fun _ => rfl) (fun γ w h => ex_assign _) rfl) ?_
    exact GSteps.nil
  intro γ4 w4 hb4 hB4 _
  refine th_r ?_
  have A5 := A2.keep hb4.out
  have A6 : SB 28 w4 (γ4 0) [.n 6 0, .n 6 0, .n 6 0, .n 6 0, .b false] := (hB4 0 (by decide)).2
  have le6 := (hB4 0 (by decide)).1
  have HB7 := below_then HB3 hb4.out
  refine wp_seq (region_m (F := fun _ => ⟨#[sv [.n 6 x0, .n 6 x1, .n 6 y0, .n 6 y1, .b i], .pointer (some ⟨(γ1 0), 0, none⟩), .bool false, .pointer (some ⟨(γ4 0), 0, none⟩), .int .i64 30, .tuple #[sv [.n 6 0, .n 6 0, .n 6 0, .n 6 0, .b false], .int .i64 30], sv [.n 6 x0, .n 6 x1, .n 6 y0, .n 6 y1, .b i], nv 4 [rN], .tuple #[sv [.n 6 0, .n 6 0, .n 6 0, .n 6 0, .b false], .int .i64 30], sv [.n 6 0, .n 6 0, .n 6 0, .n 6 0, .b false], .int .i64 30, .int .i64 30, .bool false, .bool false, undef, undef, .bool false], []⟩) 0 (fun _ => 0) (fun _ => 0) (fun _ => 0) (fun _ => []) (fun _ => []) [11, 12, 13, 14, 15, 16, 2] (.inr ⟨rfl, by kernel_rfl⟩) (by kernel_rfl) rfl rfl rfl ?_ ?_)
  · refine GSteps.cons (gm_val (v := .int .i64 30) rfl (fun _ => rfl) (fun _ => rfl) (fun γ w h => ex_move _) rfl) ?_
    refine GSteps.cons (gm_val (v := .bool false) rfl (fun _ => rfl) (fun _ => rfl) (fun γ w h => ex_eqi rfl rfl _ rfl) rfl) ?_
    refine GSteps.cons (gm_val (v := .bool false) rfl (fun _ => rfl) (fun _ => rfl) (fun γ w h => ex_move _) rfl) ?_
    refine GSteps.cons (gm_skip rfl (fun _ => rfl) (fun _ => rfl) rfl) ?_
    refine GSteps.cons (gm_skip rfl (fun _ => rfl) (fun _ => rfl) rfl) ?_
    refine GSteps.cons (gm_val (v := .bool false) rfl (fun _ => rfl) (fun _ => rfl) (fun γ w h => ex_pick (r := false) rfl) rfl) ?_
    refine GSteps.cons (gm_val (v := .bool false) rfl (fun _ => rfl) (fun _ => rfl) (fun γ w h => ex_assign _) rfl) ?_
    exact GSteps.nil
  intro _ w8 hb8 _ _
  refine th_r ?_
  have A9 := A5.keep hb8.out
  have A10 := A6.keep hb8.out
  have HB11 := below_then HB7 hb8.out
  exact wp_ret (bodyPost_ret (ret1 Try.results8 (res_tmp rfl)) rfl ⟨rfl, HB11⟩)

def g2xa : Nat := 352701069587466618187139116011060144890029952792775240219908644239793785735715026873347600343865175952761926303160
theorem lit_g2xa : nv 6 [g2xa] = .agg #[.int .u64 15312334153293348280, .int .u64 841050694974028783, .int .u64 12993178926126977399, .int .u64 14331714969349929730, .int .u64 2740446039084699729, .int .u64 165123225776229009] := by rw [nv6]; kernel_rfl
theorem g2xa_B : g2xa < fpB := by decide +kernel
def g2xb : Nat := 3059144344244213709971259814753781636986470325476647558659373206291635324768958432433509563104347017837885763365758
theorem lit_g2xb : nv 6 [g2xb] = .agg #[.int .u64 16549740192668593022, .int .u64 3696594454104530263, .int .u64 13103893525273989193, .int .u64 6443473286224459290, .int .u64 9055845637167730533, .int .u64 1432192374203850592] := by rw [nv6]; kernel_rfl
theorem g2xb_B : g2xb < fpB := by decide +kernel
def g2ya : Nat := 1985150602287291935568054521177171638300868978215655730859378665066344726373823718423869104263333984641494340347905
theorem lit_g2ya : nv 6 [g2ya] = .agg #[.int .u64 16254428414758889473, .int .u64 10536956157198377609, .int .u64 7873024875724591404, .int .u64 12537348094477325223, .int .u64 10144865889576432922, .int .u64 929383263523139089] := by rw [nv6]; kernel_rfl
theorem g2ya_B : g2ya < fpB := by decide +kernel
def g2yb : Nat := 927553665492332455747201965776037880757740193453592970025027978793976877002675564980949289727957565575433344219582
theorem lit_g2yb : nv 6 [g2yb] = .agg #[.int .u64 12297368366147926462, .int .u64 4555124010822409633, .int .u64 2771000935339432363, .int .u64 14645187562128761775, .int .u64 3651525051980876697, .int .u64 434250606344352972] := by rw [nv6]; kernel_rfl
theorem g2yb_B : g2yb < fpB := by decide +kernel

set_option maxRecDepth 20000 in
set_option maxHeartbeats 4000000 in
theorem twoGen_v (w : World) :
    Calls Try.prog 9 #[] w (Is (sv [.n 6 g2xa, .n 6 g2xb, .n 6 g2ya, .n 6 g2yb, .b false]) w) := by
  go_enter Try.func9, Try.ntmps9
  refine wp_seq (region_m (F := fun γ => ⟨#[.pointer (some ⟨γ 0, 0, none⟩), undef, undef, undef, undef, undef, undef, undef], []⟩) 1 (fun _ => 28) (fun _ => 0) (fun _ => 0) (fun _ => segs [.n 6 0, .n 6 0, .n 6 0, .n 6 0, .b false]) (fun _ => segs [.n 6 0, .n 6 0, .n 6 0, .n 6 0, .b false]) [0] (.inr ⟨rfl, by kernel_rfl⟩) (by kernel_rfl) rfl rfl rfl ?_ ?_)
  · refine GSteps.cons (gm_box 0 rfl (fun _ => rfl) (fun _ _ => rfl) (fun γ w h => ex_allocs (l := [.n 6 0, .n 6 0, .n 6 0, .n 6 0, .b false]) zG2) rfl rfl rfl) ?_
    exact GSteps.nil
  intro γ1 w1 hb1 hB1 _
  refine th_r ?_
  have A2 : SB 28 w1 (γ1 0) [.n 6 0, .n 6 0, .n 6 0, .n 6 0, .b false] := (hB1 0 (by decide)).2
  have le2 := (hB1 0 (by decide)).1
  have HB3 := below_then (Below.refl w.heap.size w) hb1.out
  refine wp_seq (region_ms (F := fun _ => ⟨#[.pointer (some ⟨(γ1 0), 0, none⟩), nv 6 [g2xa], nv 6 [g2xb], nv 6 [g2xa, g2xb], nv 6 [g2ya], nv 6 [g2yb], nv 6 [g2ya, g2yb], sv [.n 6 g2xa, .n 6 g2xb, .n 6 g2ya, .n 6 g2yb, .b false]], []⟩) 7 ((γ1 0)) 0 (segs [.n 6 g2xa, .n 6 g2xb, .n 6 g2ya, .n 6 g2yb, .b false]) 0 (fun _ => 0) (fun _ => 0) (fun _ => 0) (fun _ => []) (fun _ => []) [1, 2, 3, 4, 5, 6, 7] (.inr ⟨rfl, by kernel_rfl⟩) (by kernel_rfl) rfl rfl rfl ?_ ?_)
  · refine GSteps.cons (late_step (gm_val (v := nv 6 [g2xa]) rfl (fun _ => rfl) (fun _ => rfl) (fun γ w h => ex_six lit_g2xa (fun _ => rfl)) rfl) (by kernel_rfl) rfl) ?_
    refine GSteps.cons (late_step (gm_val (v := nv 6 [g2xb]) rfl (fun _ => rfl) (fun _ => rfl) (fun γ w h => ex_six lit_g2xb (fun _ => rfl)) rfl) (by kernel_rfl) rfl) ?_
    refine GSteps.cons (late_step (gm_val (v := nv 6 [g2xa, g2xb]) rfl (fun _ => rfl) (fun _ => rfl) (fun γ w h => ex_build stFp2 (vs := [(0, nv 6 [g2xa]), (1, nv 6 [g2xb])]) rfl (bdAB g2xa g2xb)) rfl) (by kernel_rfl) rfl) ?_
    refine GSteps.cons (late_step (gm_val (v := nv 6 [g2ya]) rfl (fun _ => rfl) (fun _ => rfl) (fun γ w h => ex_six lit_g2ya (fun _ => rfl)) rfl) (by kernel_rfl) rfl) ?_
    refine GSteps.cons (late_step (gm_val (v := nv 6 [g2yb]) rfl (fun _ => rfl) (fun _ => rfl) (fun γ w h => ex_six lit_g2yb (fun _ => rfl)) rfl) (by kernel_rfl) rfl) ?_
    refine GSteps.cons (late_step (gm_val (v := nv 6 [g2ya, g2yb]) rfl (fun _ => rfl) (fun _ => rfl) (fun γ w h => ex_build stFp2 (vs := [(0, nv 6 [g2ya]), (1, nv 6 [g2yb])]) rfl (bdAB g2ya g2yb)) rfl) (by kernel_rfl) rfl) ?_
    refine GSteps.cons (late_step (gm_val (v := sv [.n 6 g2xa, .n 6 g2xb, .n 6 g2ya, .n 6 g2yb, .b false]) rfl (fun _ => rfl) (fun _ => rfl) (fun γ w h => ex_builds stG2 (l := [.n 6 g2xa, .n 6 g2xb, .n 6 g2ya, .n 6 g2yb, .b false]) (vs := [(0, nv 6 [g2xa, g2xb]), (1, nv 6 [g2ya, g2yb])]) rfl ((fills_cons 0 2 (m := [.n 6 g2xa, .n 6 g2xb]) (z' := [.n 6 g2xa, .n 6 g2xb, .n 6 0, .n 6 0, .b false]) rfl (nv_cells 6 [g2xa, g2xb]) rfl rfl rfl rfl).trans ((fills_cons 2 2 (m := [.n 6 g2ya, .n 6 g2yb]) (z' := [.n 6 g2xa, .n 6 g2xb, .n 6 g2ya, .n 6 g2yb, .b false]) rfl (nv_cells 6 [g2ya, g2yb]) rfl rfl rfl rfl).trans rfl))) rfl) (by kernel_rfl) rfl) ?_
    refine GSteps.cons (late_store rfl (fun _ => rfl) (fun γ w h => ex_stores 0 5 (l := [.n 6 0, .n 6 0, .n 6 0, .n 6 0, .b false]) (m := [.n 6 g2xa, .n 6 g2xb, .n 6 g2ya, .n 6 g2yb, .b false]) flG2.2 rfl rfl rfl rfl (A2.keep h.out) rfl rfl) rfl) ?_
    exact GSteps.nil
  intro _ w4 w4_ hb4 _ _ hs4
  refine th_r ?_
  have A5 := A2.keep hb4.out
  have HB6 := below_then HB3 hb4.out
  have A7 := hs4.here 0 5 (l' := [.n 6 g2xa, .n 6 g2xb, .n 6 g2ya, .n 6 g2yb, .b false]) A5 rfl rfl rfl
  have HB8 := hs4.below HB6 (Nat.le_trans (Nat.le_refl _) le2)
  exact wp_ret (bodyPost_ret (ret1 Try.results9 (res_sv rfl A7 flG2 rfl)) rfl ⟨rfl, HB8⟩)

set_option maxRecDepth 20000 in
set_option maxHeartbeats 4000000 in
theorem r9Some_v (w : World) :
    Calls Try.prog 16 #[.int .i64 0] w (Is (sv [.n 6 g2xa, .n 6 g2xb, .n 6 g2ya, .n 6 g2yb, .b false]) w) := by
  go_enter Try.func16, Try.ntmps16
  refine wp_seq (region_m (F := fun γ => ⟨List.toArray ((.int .i64 0) :: undef :: (.pointer (some ⟨γ 0, 0, none⟩)) :: undef :: undef :: undef :: undef :: undef :: undef :: undef :: undef :: undef :: undef :: undef :: undef :: undef :: undef :: undef :: undef :: undef :: undef :: undef :: undef :: undef :: undef :: undef :: undef :: undef :: undef :: undef :: undef :: undef :: undef :: undef :: undef :: undef :: undef :: undef :: undef :: undef :: undef :: undef :: undef :: undef :: undef :: undef :: undef :: undef :: undef :: undef :: undef :: undef :: undef :: undef :: undef :: undef :: undef :: undef :: undef :: []), []⟩) 1 (fun _ => 28) (fun _ => 0) (fun _ => 0) (fun _ => segs [.n 6 0, .n 6 0, .n 6 0, .n 6 0, .b false]) (fun _ => segs [.n 6 0, .n 6 0, .n 6 0, .n 6 0, .b false]) [2] (.inr ⟨rfl, by kernel_rfl⟩) (by kernel_rfl) rfl rfl rfl ?_ ?_)
  · refine GSteps.cons (gm_box 0 rfl (fun _ => rfl) (fun _ _ => rfl) (fun γ w h => ex_allocs (l := [.n 6 0, .n 6 0, .n 6 0, .n 6 0, .b false]) zG2) rfl rfl rfl) ?_
    exact GSteps.nil
  intro γ1 w1 hb1 hB1 _
  refine th_r ?_
  have A2 : SB 28 w1 (γ1 0) [.n 6 0, .n 6 0, .n 6 0, .n 6 0, .b false] := (hB1 0 (by decide)).2
  have le2 := (hB1 0 (by decide)).1
  have HB3 := below_then (Below.refl w.heap.size w) hb1.out
  refine wp_seq ?_
  refine wp_seq (region_m (F := fun _ => ⟨List.toArray ((.int .i64 0) :: undef :: (.pointer (some ⟨(γ1 0), 0, none⟩)) :: (.int .i64 0) :: undef :: undef :: undef :: undef :: undef :: undef :: undef :: undef :: undef :: undef :: undef :: undef :: undef :: undef :: undef :: undef :: undef :: undef :: undef :: undef :: undef :: undef :: undef :: undef :: undef :: undef :: undef :: undef :: undef :: undef :: undef :: undef :: undef :: undef :: undef :: undef :: undef :: undef :: undef :: undef :: undef :: undef :: undef :: undef :: undef :: undef :: undef :: undef :: undef :: undef :: undef :: undef :: undef :: undef :: undef :: []), []⟩) 0 (fun _ => 0) (fun _ => 0) (fun _ => 0) (fun _ => []) (fun _ => []) [3] (.inr ⟨rfl, by kernel_rfl⟩) (by kernel_rfl) rfl rfl rfl ?_ ?_)
  · refine GSteps.cons (gm_val (v := .int .i64 0) rfl (fun _ => rfl) (fun _ => rfl) (fun γ w h => ex_move _) rfl) ?_
    exact GSteps.nil
  intro _ w4 hb4 _ _
  refine th_r ?_
  have A5 := A2.keep hb4.out
  have HB6 := below_then HB3 hb4.out
  refine wp_block ?_
  refine wp_seq (region_m (F := fun _ => ⟨List.toArray ((.int .i64 0) :: undef :: (.pointer (some ⟨(γ1 0), 0, none⟩)) :: (.int .i64 0) :: (.bool true) :: (.bool true) :: undef :: undef :: undef :: undef :: undef :: undef :: undef :: undef :: undef :: undef :: undef :: undef :: undef :: undef :: undef :: undef :: undef :: undef :: undef :: undef :: undef :: undef :: undef :: undef :: undef :: undef :: undef :: undef :: undef :: undef :: undef :: undef :: undef :: undef :: undef :: undef :: undef :: undef :: undef :: undef :: undef :: undef :: undef :: undef :: undef :: undef :: undef :: undef :: undef :: undef :: undef :: undef :: undef :: []), []⟩) 0 (fun _ => 0) (fun _ => 0) (fun _ => 0) (fun _ => []) (fun _ => []) [5, 4] (.inr ⟨rfl, by kernel_rfl⟩) (by kernel_rfl) rfl rfl rfl ?_ ?_)
  · refine GSteps.cons (gm_val (v := .bool true) rfl (fun _ => rfl) (fun _ => rfl) (fun γ w h => ex_eqi rfl rfl _ rfl) rfl) ?_
    refine GSteps.cons (gm_val (v := .bool true) rfl (fun _ => rfl) (fun _ => rfl) (fun γ w h => ex_assign _) rfl) ?_
    exact GSteps.nil
  intro _ w7 hb7 _ _
  refine th_r ?_
  have A8 := A5.keep hb7.out
  have HB9 := below_then HB6 hb7.out
  refine wp_cond_true rfl ?_
  refine wp_seq (region_ms (F := fun _ => ⟨List.toArray ((.int .i64 0) :: undef :: (.pointer (some ⟨(γ1 0), 0, none⟩)) :: (.int .i64 0) :: (.bool true) :: (.bool true) :: (nv 6 [g2xa]) :: (nv 6 [g2xb]) :: (nv 6 [g2xa, g2xb]) :: (nv 6 [g2ya]) :: (nv 6 [g2yb]) :: (nv 6 [g2ya, g2yb]) :: (sv [.n 6 g2xa, .n 6 g2xb, .n 6 g2ya, .n 6 g2yb, .b false]) :: undef :: undef :: undef :: undef :: undef :: undef :: undef :: undef :: undef :: undef :: undef :: undef :: undef :: undef :: undef :: undef :: undef :: undef :: undef :: undef :: undef :: undef :: undef :: undef :: undef :: undef :: undef :: undef :: undef :: undef :: undef :: undef :: undef :: undef :: undef :: undef :: undef :: undef :: undef :: undef :: undef :: undef :: undef :: undef :: undef :: undef :: []), []⟩) 7 ((γ1 0)) 0 (segs [.n 6 g2xa, .n 6 g2xb, .n 6 g2ya, .n 6 g2yb, .b false]) 0 (fun _ => 0) (fun _ => 0) (fun _ => 0) (fun _ => []) (fun _ => []) [6, 7, 8, 9, 10, 11, 12] (.inr ⟨rfl, by kernel_rfl⟩) (by kernel_rfl) rfl rfl rfl ?_ ?_)
  · refine GSteps.cons (late_step (gm_val (v := nv 6 [g2xa]) rfl (fun _ => rfl) (fun _ => rfl) (fun γ w h => ex_six lit_g2xa (fun _ => rfl)) rfl) (by kernel_rfl) rfl) ?_
    refine GSteps.cons (late_step (gm_val (v := nv 6 [g2xb]) rfl (fun _ => rfl) (fun _ => rfl) (fun γ w h => ex_six lit_g2xb (fun _ => rfl)) rfl) (by kernel_rfl) rfl) ?_
    refine GSteps.cons (late_step (gm_val (v := nv 6 [g2xa, g2xb]) rfl (fun _ => rfl) (fun _ => rfl) (fun γ w h => ex_build stFp2 (vs := [(0, nv 6 [g2xa]), (1, nv 6 [g2xb])]) rfl (bdAB g2xa g2xb)) rfl) (by kernel_rfl) rfl) ?_
    refine GSteps.cons (late_step (gm_val (v := nv 6 [g2ya]) rfl (fun _ => rfl) (fun _ => rfl) (fun γ w h => ex_six lit_g2ya (fun _ => rfl)) rfl) (by kernel_rfl) rfl) ?_
    refine GSteps.cons (late_step (gm_val (v := nv 6 [g2yb]) rfl (fun _ => rfl) (fun _ => rfl) (fun γ w h => ex_six lit_g2yb (fun _ => rfl)) rfl) (by kernel_rfl) rfl) ?_
    refine GSteps.cons (late_step (gm_val (v := nv 6 [g2ya, g2yb]) rfl (fun _ => rfl) (fun _ => rfl) (fun γ w h => ex_build stFp2 (vs := [(0, nv 6 [g2ya]), (1, nv 6 [g2yb])]) rfl (bdAB g2ya g2yb)) rfl) (by kernel_rfl) rfl) ?_
    refine GSteps.cons (late_step (gm_val (v := sv [.n 6 g2xa, .n 6 g2xb, .n 6 g2ya, .n 6 g2yb, .b false]) rfl (fun _ => rfl) (fun _ => rfl) (fun γ w h => ex_builds stG2 (l := [.n 6 g2xa, .n 6 g2xb, .n 6 g2ya, .n 6 g2yb, .b false]) (vs := [(0, nv 6 [g2xa, g2xb]), (1, nv 6 [g2ya, g2yb])]) rfl ((fills_cons 0 2 (m := [.n 6 g2xa, .n 6 g2xb]) (z' := [.n 6 g2xa, .n 6 g2xb, .n 6 0, .n 6 0, .b false]) rfl (nv_cells 6 [g2xa, g2xb]) rfl rfl rfl rfl).trans ((fills_cons 2 2 (m := [.n 6 g2ya, .n 6 g2yb]) (z' := [.n 6 g2xa, .n 6 g2xb, .n 6 g2ya, .n 6 g2yb, .b false]) rfl (nv_cells 6 [g2ya, g2yb]) rfl rfl rfl rfl).trans rfl))) rfl) (by kernel_rfl) rfl) ?_
    refine GSteps.cons (late_store rfl (fun _ => rfl) (fun γ w h => ex_stores 0 5 (l := [.n 6 0, .n 6 0, .n 6 0, .n 6 0, .b false]) (m := [.n 6 g2xa, .n 6 g2xb, .n 6 g2ya, .n 6 g2yb, .b false]) flG2.2 rfl rfl rfl rfl (A8.keep h.out) rfl rfl) rfl) ?_
    exact GSteps.nil
  intro _ w10 w10_ hb10 _ _ hs10
  refine th_r ?_
  have A11 := A8.keep hb10.out
  have HB12 := below_then HB9 hb10.out
  have A13 := hs10.here 0 5 (l' := [.n 6 g2xa, .n 6 g2xb, .n 6 g2ya, .n 6 g2yb, .b false]) A11 rfl rfl rfl
  have HB14 := hs10.below HB12 (Nat.le_trans (Nat.le_refl _) le2)
  exact wp_ret (bk_r (th_ret (bodyPost_ret (ret1 Try.results16 (res_sv rfl A13 flG2 rfl)) rfl ⟨rfl, HB14⟩)))

theorem twogen_t : sv [.n 6 g2xa, .n 6 g2xb, .n 6 g2ya, .n 6 g2yb, .b false] = sv [.n 6 (bx0 G2.pt), .n 6 (bx1 G2.pt), .n 6 (by0 G2.pt), .n 6 (by1 G2.pt), .b (bi G2.pt)] := by
  have h0 : g2xa = bx0 G2.pt := by decide +kernel
  have h1 : g2xb = bx1 G2.pt := by decide +kernel
  have h2 : g2ya = by0 G2.pt := by decide +kernel
  have h3 : g2yb = by1 G2.pt := by decide +kernel
  rw [← h0, ← h1, ← h2, ← h3]
  rfl
theorem twoGen_p (w : World) : Calls Try.prog 9 #[] w (Is (sv [.n 6 (bx0 G2.pt), .n 6 (bx1 G2.pt), .n 6 (by0 G2.pt), .n 6 (by1 G2.pt), .b (bi G2.pt)]) w) := by
  rw [← twogen_t]
  exact twoGen_v w
/-- The point at infinity. -/
def Z2 : E2 := EP.zero
theorem twoZero_p (w : World) : Calls Try.prog 10 #[] w (Is (sv [.n 6 (bx0 Z2.pt), .n 6 (bx1 Z2.pt), .n 6 (by0 Z2.pt), .n 6 (by1 Z2.pt), .b (bi Z2.pt)]) w) := twoZero_v w
end Go.Proofs.Ytmhieifjmgcbkaa

/- What is proved here: the law FullPows. -/
import Derived.Test.YtodabjelnllkgaaFull2
import Derived.Test.YtodabjelnllkgaaFullPow
import Derived.Test.YtodabjelnllkgaaIntOps
namespace Go.Proofs.Ytodabjelnllkgaa
open Go.RowKit

theorem limb_fpB {e : Nat} (h : e < 2 ^ 64) : e < fpB := Nat.lt_trans h (by decide +kernel)

set_option maxRecDepth 20000 in
set_option maxHeartbeats 4000000 in
theorem fullPows1_q {a v : N12} {X : E12} {e : Nat} (ha : QB a X) (he : e < 2 ^ 64) (hv : QP v (S12.pow X e)) (w : World) :
    Calls Try.prog 18 #[nv 6 a.l, .int .u64 (e : Int)] w (Is (nv 6 v.l) w) := by
  go_enter Try.func18, Try.ntmps18
  refine seq_lit ?_
  refine sq_new (a' := ⟨#[nv 6 a.l, .int .u64 (e : Int), .pointer (some ⟨w.heap.size, 0, none⟩), undef, undef, undef, undef, undef, undef], []⟩) (xs := rows 6 a.l) rfl rfl (ex_boxn (K := 6) (l := a.l) rfl) ?_
  intro w1 N1 hb1
  have HB2 := below_then (Below.refl w.heap.size w) hb1
  refine sq_new (a' := ⟨#[nv 6 a.l, .int .u64 (e : Int), .pointer (some ⟨w.heap.size, 0, none⟩), undef, .pointer (some ⟨w1.heap.size, 0, none⟩), undef, undef, undef, undef], []⟩) (xs := rows 6 [0, 0, 0, 0, 0, 0, 0, 0, 0, 0, 0, 0]) rfl rfl (ex_alloc zFp12) ?_
  intro w3 N3 hb3
  have A4 := N1.keep hb3
  have HB5 := below_then HB2 hb3
  refine seq_nil ?_
  refine seq_lit ?_
  refine sq_val (a' := ⟨#[nv 6 a.l, .int .u64 (e : Int), .pointer (some ⟨w.heap.size, 0, none⟩), undef, .pointer (some ⟨w1.heap.size, 0, none⟩), nv 6 a.l, undef, undef, undef], []⟩) (v := nv 6 a.l) rfl rfl (ex_loadn (K := 6) (k := 0) (j := 12) (l := a.l) flFp12 rfl A4 rfl _ rfl) ?_
  refine sq_val (a' := ⟨#[nv 6 a.l, .int .u64 (e : Int), .pointer (some ⟨w.heap.size, 0, none⟩), undef, .pointer (some ⟨w1.heap.size, 0, none⟩), nv 6 a.l, .int .u64 (e : Int), undef, undef], []⟩) (v := .int .u64 (e : Int)) rfl rfl (ex_move _) ?_
  refine sq_val (a' := ⟨#[nv 6 a.l, .int .u64 (e : Int), .pointer (some ⟨w.heap.size, 0, none⟩), undef, .pointer (some ⟨w1.heap.size, 0, none⟩), nv 6 a.l, .int .u64 (e : Int), nv 6 [e], undef], []⟩) (v := nv 6 [e]) rfl rfl (ex_limb6 he rfl) ?_
  refine sq_call (a' := ⟨#[nv 6 a.l, .int .u64 (e : Int), .pointer (some ⟨w.heap.size, 0, none⟩), undef, .pointer (some ⟨w1.heap.size, 0, none⟩), nv 6 a.l, .int .u64 (e : Int), nv 6 [e], nv 6 v.l], []⟩) (v := nv 6 v.l) rfl rfl (ex_call (vs := [nv 6 a.l, nv 6 [e]]) rfl Try.call19 rfl) (fullPow_q ha (limb_fpB he) hv _) ?_
  intro w7 hb7
  have A8 := A4.keep hb7
  have A9 := N3.keep hb7
  have HB10 := below_then HB5 hb7
  refine sq_store (a' := ⟨#[nv 6 a.l, .int .u64 (e : Int), .pointer (some ⟨w.heap.size, 0, none⟩), undef, .pointer (some ⟨w1.heap.size, 0, none⟩), nv 6 a.l, .int .u64 (e : Int), nv 6 [e], nv 6 v.l], []⟩) (t := 30) (xs := rows 6 [0, 0, 0, 0, 0, 0, 0, 0, 0, 0, 0, 0]) (ys := rows 6 v.l) rfl rfl A9 (len_rows rfl) (ex_storen (K := 6) (l := [0, 0, 0, 0, 0, 0, 0, 0, 0, 0, 0, 0]) (m := v.l) flFp12 rfl rfl A9 rfl) ?_
  intro w11 N11 hst11 hoth11
  have A12 := hoth11 _ _ _ (Nat.ne_of_lt N1.lt) A8
  have HB13 := hst11 _ _ HB10 HB2.size
  refine seq_nil ?_
  exact wp_ret (bodyPost_ret (ret_celln (K := 6) Try.results18 rfl N11 flFp12) rfl ⟨rfl, HB13⟩)

set_option maxRecDepth 20000 in
set_option maxHeartbeats 4000000 in
theorem r7Pow_q {x v : N12} {X : E12} {m : Nat} (hx : QP x X) (hm : m ≤ 5) (hv : QP v (S12.pow X m)) (w : World) :
    Calls Try.prog 20 #[nv 6 x.l, .int .i64 (m : Int)] w (Is (nv 6 v.l) w) := by
  obtain ⟨Z, hZ⟩ : ∃ Z : Nat → N12, ∀ k, QP (Z k) (S12.pow X k) := ⟨fun k => (qp_of (S12.pow X k)).choose, fun k => (qp_of (S12.pow X k)).choose_spec⟩
  have hZ0 : (Z 0).l = [1, 0, 0, 0, 0, 0, 0, 0, 0, 0, 0, 0] := by rw [rep12_uniq (hZ 0) (b := ⟨1, 0, 0, 0, 0, 0, 0, 0, 0, 0, 0, 0⟩) qp_one]; rfl
  obtain rfl : v = Z m := rep12_uniq hv (hZ m)
  go_enter Try.func20, Try.ntmps20
  refine seq_lit ?_
  refine sq_new (a' := ⟨#[nv 6 x.l, .int .i64 (m : Int), .pointer (some ⟨w.heap.size, 0, none⟩), undef, undef, undef, undef, undef, undef, undef, undef, undef, undef, undef, undef, undef, undef], []⟩) (xs := rows 6 x.l) rfl rfl (ex_boxn (K := 6) (l := x.l) rfl) ?_
  intro w1 N1 hb1
  have HB2 := below_then (Below.refl w.heap.size w) hb1
  refine sq_new (a' := ⟨#[nv 6 x.l, .int .i64 (m : Int), .pointer (some ⟨w.heap.size, 0, none⟩), undef, .pointer (some ⟨w1.heap.size, 0, none⟩), undef, undef, undef, undef, undef, undef, undef, undef, undef, undef, undef, undef], []⟩) (xs := rows 6 [0, 0, 0, 0, 0, 0, 0, 0, 0, 0, 0, 0]) rfl rfl (ex_alloc zFp12) ?_
  intro w3 N3 hb3
  have A4 := N1.keep hb3
  have HB5 := below_then HB2 hb3
  refine seq_nil ?_
  refine seq_lit ?_
  refine sq_call (a' := ⟨#[nv 6 x.l, .int .i64 (m : Int), .pointer (some ⟨w.heap.size, 0, none⟩), undef, .pointer (some ⟨w1.heap.size, 0, none⟩), undef, undef, nv 6 [1, 0, 0, 0, 0, 0, 0, 0, 0, 0, 0, 0], undef, undef, undef, undef, undef, undef, undef, undef, undef], []⟩) (v := nv 6 [1, 0, 0, 0, 0, 0, 0, 0, 0, 0, 0, 0]) rfl rfl (ex_call (vs := []) rfl Try.call24 rfl) (r7One_w _) ?_
  intro w7 hb7
  have A8 := A4.keep hb7
  have A9 := N3.keep hb7
  have HB10 := below_then HB5 hb7
  refine sq_new (a' := ⟨#[nv 6 x.l, .int .i64 (m : Int), .pointer (some ⟨w.heap.size, 0, none⟩), undef, .pointer (some ⟨w1.heap.size, 0, none⟩), .pointer (some ⟨w7.heap.size, 0, none⟩), undef, nv 6 [1, 0, 0, 0, 0, 0, 0, 0, 0, 0, 0, 0], undef, undef, undef, undef, undef, undef, undef, undef, undef], []⟩) (xs := rows 6 [0, 0, 0, 0, 0, 0, 0, 0, 0, 0, 0, 0]) rfl rfl (ex_alloc zFp12) ?_
  intro w11 N11 hb11
  have A12 := A8.keep hb11
  have A13 := A9.keep hb11
  have HB14 := below_then HB10 hb11
  refine sq_store (a' := ⟨#[nv 6 x.l, .int .i64 (m : Int), .pointer (some ⟨w.heap.size, 0, none⟩), undef, .pointer (some ⟨w1.heap.size, 0, none⟩), .pointer (some ⟨w7.heap.size, 0, none⟩), undef, nv 6 [1, 0, 0, 0, 0, 0, 0, 0, 0, 0, 0, 0], undef, undef, undef, undef, undef, undef, undef, undef, undef], []⟩) (t := 30) (xs := rows 6 [0, 0, 0, 0, 0, 0, 0, 0, 0, 0, 0, 0]) (ys := rows 6 [1, 0, 0, 0, 0, 0, 0, 0, 0, 0, 0, 0]) rfl rfl N11 (len_rows rfl) (ex_storen (K := 6) (l := [0, 0, 0, 0, 0, 0, 0, 0, 0, 0, 0, 0]) (m := [1, 0, 0, 0, 0, 0, 0, 0, 0, 0, 0, 0]) flFp12 rfl rfl N11 rfl) ?_
  intro w17 N17 hst17 hoth17
  have A18 := hoth17 _ _ _ (Nat.ne_of_lt A8.lt) A12
  have A19 := hoth17 _ _ _ (Nat.ne_of_lt A9.lt) A13
  have HB20 := hst17 _ _ HB14 HB10.size
  refine seq_nil ?_
  refine wp_seq ?_
  refine seq_lit ?_
  refine sq_val (a' := ⟨#[nv 6 x.l, .int .i64 (m : Int), .pointer (some ⟨w.heap.size, 0, none⟩), undef, .pointer (some ⟨w1.heap.size, 0, none⟩), .pointer (some ⟨w7.heap.size, 0, none⟩), .int .i64 0, nv 6 [1, 0, 0, 0, 0, 0, 0, 0, 0, 0, 0, 0], undef, undef, undef, undef, undef, undef, undef, undef, undef], []⟩) (v := .int .i64 0) rfl rfl (ex_assign _) ?_
  refine seq_nil ?_
  refine wp_block ?_
  refine wp_loop_by (m) (fun q_ a_ v_ => ∃ j8 j9 j10 j11 j12 j13 j14 j15 : Value, a_ = ⟨#[nv 6 x.l, .int .i64 (m : Int), .pointer (some ⟨w.heap.size, 0, none⟩), undef, .pointer (some ⟨w1.heap.size, 0, none⟩), .pointer (some ⟨w7.heap.size, 0, none⟩), .int .i64 ((q_ : Nat) : Int), nv 6 [1, 0, 0, 0, 0, 0, 0, 0, 0, 0, 0, 0], j8, j9, j10, j11, j12, j13, j14, j15, undef], []⟩ ∧ Arr 30 v_ (w.heap.size) (rows 6 x.l) ∧ Arr 30 v_ (w1.heap.size) (rows 6 [0, 0, 0, 0, 0, 0, 0, 0, 0, 0, 0, 0]) ∧ Arr 30 v_ (w7.heap.size) (rows 6 (Z (q_)).l) ∧ Below w.heap.size w v_) ⟨_, _, _, _, _, _, _, _, rfl, A18, A19, (by rw [hZ0]; exact N17), HB20⟩ ?_ ?_
  · intro k21 hk21
    rintro _ w21 ⟨i21_8, i21_9, i21_10, i21_11, i21_12, i21_13, i21_14, i21_15, rfl, A21_0, A21_1, A21_2, HB21⟩ K21 hK21
    refine wp_seq ?_
    refine seq_lit ?_
    refine sq_val (a' := ⟨#[nv 6 x.l, .int .i64 (m : Int), .pointer (some ⟨w.heap.size, 0, none⟩), undef, .pointer (some ⟨w1.heap.size, 0, none⟩), .pointer (some ⟨w7.heap.size, 0, none⟩), .int .i64 ((k21 : Nat) : Int), nv 6 [1, 0, 0, 0, 0, 0, 0, 0, 0, 0, 0, 0], .int .i64 ((k21 : Nat) : Int), i21_9, i21_10, i21_11, i21_12, i21_13, i21_14, i21_15, undef], []⟩) (v := .int .i64 ((k21 : Nat) : Int)) rfl rfl (ex_move _) ?_
    refine sq_val (a' := ⟨#[nv 6 x.l, .int .i64 (m : Int), .pointer (some ⟨w.heap.size, 0, none⟩), undef, .pointer (some ⟨w1.heap.size, 0, none⟩), .pointer (some ⟨w7.heap.size, 0, none⟩), .int .i64 ((k21 : Nat) : Int), nv 6 [1, 0, 0, 0, 0, 0, 0, 0, 0, 0, 0, 0], .int .i64 ((k21 : Nat) : Int), .int .i64 (m : Int), i21_10, i21_11, i21_12, i21_13, i21_14, i21_15, undef], []⟩) (v := .int .i64 (m : Int)) rfl rfl (ex_move _) ?_
    refine sq_val (a' := ⟨#[nv 6 x.l, .int .i64 (m : Int), .pointer (some ⟨w.heap.size, 0, none⟩), undef, .pointer (some ⟨w1.heap.size, 0, none⟩), .pointer (some ⟨w7.heap.size, 0, none⟩), .int .i64 ((k21 : Nat) : Int), nv 6 [1, 0, 0, 0, 0, 0, 0, 0, 0, 0, 0, 0], .int .i64 ((k21 : Nat) : Int), .int .i64 (m : Int), .bool true, i21_11, i21_12, i21_13, i21_14, i21_15, undef], []⟩) (v := .bool true) rfl rfl (ex_ilss rfl rfl true (by simp; omega)) ?_
    refine seq_nil ?_
    refine wp_cond_true rfl ?_
    refine wp_skip ?_
    refine then_n ?_
    refine wp_seq ?_
    refine wp_block ?_
    refine wp_region_lit ?_
    refine sq_val (a' := ⟨#[nv 6 x.l, .int .i64 (m : Int), .pointer (some ⟨w.heap.size, 0, none⟩), undef, .pointer (some ⟨w1.heap.size, 0, none⟩), .pointer (some ⟨w7.heap.size, 0, none⟩), .int .i64 ((k21 : Nat) : Int), nv 6 [1, 0, 0, 0, 0, 0, 0, 0, 0, 0, 0, 0], .int .i64 ((k21 : Nat) : Int), .int .i64 (m : Int), .bool true, i21_11, i21_12, nv 6 (Z (k21)).l, i21_14, i21_15, undef], []⟩) (v := nv 6 (Z (k21)).l) rfl rfl (ex_loadn (K := 6) (k := 0) (j := 12) (l := (Z (k21)).l) flFp12 rfl A21_2 rfl _ rfl) ?_
    refine sq_val (a' := ⟨#[nv 6 x.l, .int .i64 (m : Int), .pointer (some ⟨w.heap.size, 0, none⟩), undef, .pointer (some ⟨w1.heap.size, 0, none⟩), .pointer (some ⟨w7.heap.size, 0, none⟩), .int .i64 ((k21 : Nat) : Int), nv 6 [1, 0, 0, 0, 0, 0, 0, 0, 0, 0, 0, 0], .int .i64 ((k21 : Nat) : Int), .int .i64 (m : Int), .bool true, i21_11, i21_12, nv 6 (Z (k21)).l, nv 6 x.l, i21_15, undef], []⟩) (v := nv 6 x.l) rfl rfl (ex_loadn (K := 6) (k := 0) (j := 12) (l := x.l) flFp12 rfl A21_0 rfl _ rfl) ?_
    refine sq_call (a' := ⟨#[nv 6 x.l, .int .i64 (m : Int), .pointer (some ⟨w.heap.size, 0, none⟩), undef, .pointer (some ⟨w1.heap.size, 0, none⟩), .pointer (some ⟨w7.heap.size, 0, none⟩), .int .i64 ((k21 : Nat) : Int), nv 6 [1, 0, 0, 0, 0, 0, 0, 0, 0, 0, 0, 0], .int .i64 ((k21 : Nat) : Int), .int .i64 (m : Int), .bool true, i21_11, i21_12, nv 6 (Z (k21)).l, nv 6 x.l, nv 6 (Z (k21 + 1)).l, undef], []⟩) (v := nv 6 (Z (k21 + 1)).l) rfl rfl (ex_call (vs := [nv 6 (Z (k21)).l, nv 6 x.l]) rfl Try.call37 rfl) (r7Mul_q (hZ k21) hx (hZ (k21 + 1)) _) ?_
    intro w22 hb22
    have A23 := A21_0.keep hb22
    have A24 := A21_1.keep hb22
    have A25 := A21_2.keep hb22
    have HB26 := below_then HB21 hb22
    refine sq_store (a' := ⟨#[nv 6 x.l, .int .i64 (m : Int), .pointer (some ⟨w.heap.size, 0, none⟩), undef, .pointer (some ⟨w1.heap.size, 0, none⟩), .pointer (some ⟨w7.heap.size, 0, none⟩), .int .i64 ((k21 : Nat) : Int), nv 6 [1, 0, 0, 0, 0, 0, 0, 0, 0, 0, 0, 0], .int .i64 ((k21 : Nat) : Int), .int .i64 (m : Int), .bool true, i21_11, i21_12, nv 6 (Z (k21)).l, nv 6 x.l, nv 6 (Z (k21 + 1)).l, undef], []⟩) (t := 30) (xs := rows 6 (Z (k21)).l) (ys := rows 6 (Z (k21 + 1)).l) rfl rfl A25 (len_rows rfl) (ex_storen (K := 6) (l := (Z (k21)).l) (m := (Z (k21 + 1)).l) flFp12 rfl rfl A25 rfl) ?_
    intro w27 N27 hst27 hoth27
    have A28 := hoth27 _ _ _ (Nat.ne_of_lt A8.lt) A23
    have A29 := hoth27 _ _ _ (Nat.ne_of_lt A9.lt) A24
    have HB30 := hst27 _ _ HB26 HB10.size
    refine wpList_nil ?_
    refine bk_n ?_
    refine then_n ?_
    refine wp_region_lit ?_
    refine sq_val (a' := ⟨#[nv 6 x.l, .int .i64 (m : Int), .pointer (some ⟨w.heap.size, 0, none⟩), undef, .pointer (some ⟨w1.heap.size, 0, none⟩), .pointer (some ⟨w7.heap.size, 0, none⟩), .int .i64 ((k21 : Nat) : Int), nv 6 [1, 0, 0, 0, 0, 0, 0, 0, 0, 0, 0, 0], .int .i64 ((k21 : Nat) : Int), .int .i64 (m : Int), .bool true, .int .i64 ((k21 : Nat) : Int), i21_12, nv 6 (Z (k21)).l, nv 6 x.l, nv 6 (Z (k21 + 1)).l, undef], []⟩) (v := .int .i64 ((k21 : Nat) : Int)) rfl rfl (ex_move _) ?_
    refine sq_val (a' := ⟨#[nv 6 x.l, .int .i64 (m : Int), .pointer (some ⟨w.heap.size, 0, none⟩), undef, .pointer (some ⟨w1.heap.size, 0, none⟩), .pointer (some ⟨w7.heap.size, 0, none⟩), .int .i64 ((k21 : Nat) : Int), nv 6 [1, 0, 0, 0, 0, 0, 0, 0, 0, 0, 0, 0], .int .i64 ((k21 : Nat) : Int), .int .i64 (m : Int), .bool true, .int .i64 ((k21 : Nat) : Int), .int .i64 ((k21 + 1 : Nat) : Int), nv 6 (Z (k21)).l, nv 6 x.l, nv 6 (Z (k21 + 1)).l, undef], []⟩) (v := .int .i64 ((k21 + 1 : Nat) : Int)) rfl rfl (ex_iadd rfl rfl ((k21 + 1 : Nat) : Int) (by rw [wrapI64 (by omega) (by omega)]; omega)) ?_
    refine sq_val (a' := ⟨#[nv 6 x.l, .int .i64 (m : Int), .pointer (some ⟨w.heap.size, 0, none⟩), undef, .pointer (some ⟨w1.heap.size, 0, none⟩), .pointer (some ⟨w7.heap.size, 0, none⟩), .int .i64 ((k21 + 1 : Nat) : Int), nv 6 [1, 0, 0, 0, 0, 0, 0, 0, 0, 0, 0, 0], .int .i64 ((k21 : Nat) : Int), .int .i64 (m : Int), .bool true, .int .i64 ((k21 : Nat) : Int), .int .i64 ((k21 + 1 : Nat) : Int), nv 6 (Z (k21)).l, nv 6 x.l, nv 6 (Z (k21 + 1)).l, undef], []⟩) (v := .int .i64 ((k21 + 1 : Nat) : Int)) rfl rfl (ex_assign _) ?_
    refine wpList_nil ?_
    refine th_r ?_
    exact hK21.out _ _ ⟨_, _, _, _, _, _, _, _, rfl, A28, A29, N27, HB30⟩
  · rintro _ w31 ⟨i31_8, i31_9, i31_10, i31_11, i31_12, i31_13, i31_14, i31_15, rfl, A31_0, A31_1, A31_2, HB31⟩ K31
    refine wp_seq ?_
    refine seq_lit ?_
    refine sq_val (a' := ⟨#[nv 6 x.l, .int .i64 (m : Int), .pointer (some ⟨w.heap.size, 0, none⟩), undef, .pointer (some ⟨w1.heap.size, 0, none⟩), .pointer (some ⟨w7.heap.size, 0, none⟩), .int .i64 ((m : Nat) : Int), nv 6 [1, 0, 0, 0, 0, 0, 0, 0, 0, 0, 0, 0], .int .i64 ((m : Nat) : Int), i31_9, i31_10, i31_11, i31_12, i31_13, i31_14, i31_15, undef], []⟩) (v := .int .i64 ((m : Nat) : Int)) rfl rfl (ex_move _) ?_
    refine sq_val (a' := ⟨#[nv 6 x.l, .int .i64 (m : Int), .pointer (some ⟨w.heap.size, 0, none⟩), undef, .pointer (some ⟨w1.heap.size, 0, none⟩), .pointer (some ⟨w7.heap.size, 0, none⟩), .int .i64 ((m : Nat) : Int), nv 6 [1, 0, 0, 0, 0, 0, 0, 0, 0, 0, 0, 0], .int .i64 ((m : Nat) : Int), .int .i64 (m : Int), i31_10, i31_11, i31_12, i31_13, i31_14, i31_15, undef], []⟩) (v := .int .i64 (m : Int)) rfl rfl (ex_move _) ?_
    refine sq_val (a' := ⟨#[nv 6 x.l, .int .i64 (m : Int), .pointer (some ⟨w.heap.size, 0, none⟩), undef, .pointer (some ⟨w1.heap.size, 0, none⟩), .pointer (some ⟨w7.heap.size, 0, none⟩), .int .i64 ((m : Nat) : Int), nv 6 [1, 0, 0, 0, 0, 0, 0, 0, 0, 0, 0, 0], .int .i64 ((m : Nat) : Int), .int .i64 (m : Int), .bool false, i31_11, i31_12, i31_13, i31_14, i31_15, undef], []⟩) (v := .bool false) rfl rfl (ex_ilss rfl rfl false (by simp)) ?_
    refine seq_nil ?_
    refine wp_cond_false rfl ?_
    refine wp_exit ((th_e (th_e (bk_e ?_))))
    refine then_n ?_
    refine seq_lit ?_
    refine sq_val (a' := ⟨#[nv 6 x.l, .int .i64 (m : Int), .pointer (some ⟨w.heap.size, 0, none⟩), undef, .pointer (some ⟨w1.heap.size, 0, none⟩), .pointer (some ⟨w7.heap.size, 0, none⟩), .int .i64 ((m : Nat) : Int), nv 6 [1, 0, 0, 0, 0, 0, 0, 0, 0, 0, 0, 0], .int .i64 ((m : Nat) : Int), .int .i64 (m : Int), .bool false, i31_11, i31_12, i31_13, i31_14, i31_15, nv 6 (Z (m)).l], []⟩) (v := nv 6 (Z (m)).l) rfl rfl (ex_loadn (K := 6) (k := 0) (j := 12) (l := (Z (m)).l) flFp12 rfl A31_2 rfl _ rfl) ?_
    refine sq_store (a' := ⟨#[nv 6 x.l, .int .i64 (m : Int), .pointer (some ⟨w.heap.size, 0, none⟩), undef, .pointer (some ⟨w1.heap.size, 0, none⟩), .pointer (some ⟨w7.heap.size, 0, none⟩), .int .i64 ((m : Nat) : Int), nv 6 [1, 0, 0, 0, 0, 0, 0, 0, 0, 0, 0, 0], .int .i64 ((m : Nat) : Int), .int .i64 (m : Int), .bool false, i31_11, i31_12, i31_13, i31_14, i31_15, nv 6 (Z (m)).l], []⟩) (t := 30) (xs := rows 6 [0, 0, 0, 0, 0, 0, 0, 0, 0, 0, 0, 0]) (ys := rows 6 (Z (m)).l) rfl rfl A31_1 (len_rows rfl) (ex_storen (K := 6) (l := [0, 0, 0, 0, 0, 0, 0, 0, 0, 0, 0, 0]) (m := (Z (m)).l) flFp12 rfl rfl A31_1 rfl) ?_
    intro w32 N32 hst32 hoth32
    have A33 := hoth32 _ _ _ (Nat.ne_of_lt N1.lt) A31_0
    have A34 := hoth32 _ _ _ (Ne.symm (Nat.ne_of_lt A9.lt)) A31_2
    have HB35 := hst32 _ _ HB31 HB2.size
    refine seq_nil ?_
    exact wp_ret (bodyPost_ret (ret_celln (K := 6) Try.results20 rfl N32 flFp12) rfl ⟨rfl, HB35⟩)

set_option maxRecDepth 20000 in
set_option maxHeartbeats 4000000 in
theorem fullPows_v (a b : N12) (n : Int) (s t : Nat) (w : World) (la : ∀ x ∈ a.l, x < fpB) (lb : ∀ x ∈ b.l, x < fpB) (hs' : s < 4294967296) (ht' : t < 4294967296) :
    Calls Try.prog 5 #[nv 6 a.l, nv 6 b.l, .int .i64 n, .int .u32 (s : Int), .int .u32 (t : Int)] w (Is (.bool true) w) := by
  obtain ⟨X, ha⟩ := qb_self a la
  obtain ⟨Y, hb⟩ := qb_self b lb
  obtain ⟨x, hx⟩ := qp_of (X)
  obtain ⟨m, hm, hm5⟩ := clamp5 n
  obtain ⟨e, he⟩ := qp_of (S12.pow X m)
  obtain ⟨f, hf⟩ := qp_of (S12.pow X s)
  obtain ⟨g, hg⟩ := qp_of (S12.pow X t)
  obtain ⟨k, hk⟩ := qp_of (S12.pow X (s + t))
  obtain ⟨p, hp⟩ := qp_of (S12.pow X (s * t))
  obtain ⟨q, hq⟩ := qp_of (E12.mul X Y)
  obtain ⟨o, ho⟩ := qp_of (S12.pow Y s)
  obtain ⟨z, hz⟩ := qp_of (S12.pow (E12.mul X Y) s)
  have hst := u32_mul hs' ht'
  go_enter Try.func5, Try.ntmps5
  refine seq_lit ?_
  refine sq_new (a' := ⟨List.toArray ((nv 6 a.l) :: (nv 6 b.l) :: (.int .i64 n) :: (.int .u32 (s : Int)) :: (.int .u32 (t : Int)) :: (.pointer (some ⟨w.heap.size, 0, none⟩)) :: undef :: undef :: undef :: undef :: undef :: undef :: undef :: undef :: undef :: undef :: undef :: undef :: undef :: undef :: undef :: undef :: undef :: undef :: undef :: undef :: undef :: undef :: undef :: undef :: undef :: undef :: undef :: undef :: undef :: undef :: undef :: undef :: undef :: undef :: undef :: undef :: undef :: undef :: undef :: undef :: undef :: undef :: undef :: undef :: undef :: undef :: undef :: undef :: undef :: undef :: undef :: undef :: undef :: undef :: undef :: undef :: undef :: undef :: undef :: undef :: undef :: undef :: undef :: undef :: undef :: undef :: undef :: undef :: undef :: undef :: undef :: undef :: undef :: undef :: undef :: undef :: undef :: undef :: undef :: []), []⟩) (xs := rows 6 a.l) rfl rfl (ex_boxn (K := 6) (l := a.l) rfl) ?_
  intro w1 N1 hb1
  have HB2 := below_then (Below.refl w.heap.size w) hb1
  refine sq_new (a' := ⟨List.toArray ((nv 6 a.l) :: (nv 6 b.l) :: (.int .i64 n) :: (.int .u32 (s : Int)) :: (.int .u32 (t : Int)) :: (.pointer (some ⟨w.heap.size, 0, none⟩)) :: (.pointer (some ⟨w1.heap.size, 0, none⟩)) :: undef :: undef :: undef :: undef :: undef :: undef :: undef :: undef :: undef :: undef :: undef :: undef :: undef :: undef :: undef :: undef :: undef :: undef :: undef :: undef :: undef :: undef :: undef :: undef :: undef :: undef :: undef :: undef :: undef :: undef :: undef :: undef :: undef :: undef :: undef :: undef :: undef :: undef :: undef :: undef :: undef :: undef :: undef :: undef :: undef :: undef :: undef :: undef :: undef :: undef :: undef :: undef :: undef :: undef :: undef :: undef :: undef :: undef :: undef :: undef :: undef :: undef :: undef :: undef :: undef :: undef :: undef :: undef :: undef :: undef :: undef :: undef :: undef :: undef :: undef :: undef :: undef :: undef :: []), []⟩) (xs := rows 6 b.l) rfl rfl (ex_boxn (K := 6) (l := b.l) rfl) ?_
  intro w3 N3 hb3
  have A4 := N1.keep hb3
  have HB5 := below_then HB2 hb3
  refine sq_val (a' := ⟨List.toArray ((nv 6 a.l) :: (nv 6 b.l) :: (.int .i64 n) :: (.int .u32 (s : Int)) :: (.int .u32 (t : Int)) :: (.pointer (some ⟨w.heap.size, 0, none⟩)) :: (.pointer (some ⟨w1.heap.size, 0, none⟩)) :: undef :: undef :: undef :: (.bool false) :: undef :: undef :: undef :: undef :: undef :: undef :: undef :: undef :: undef :: undef :: undef :: undef :: undef :: undef :: undef :: undef :: undef :: undef :: undef :: undef :: undef :: undef :: undef :: undef :: undef :: undef :: undef :: undef :: undef :: undef :: undef :: undef :: undef :: undef :: undef :: undef :: undef :: undef :: undef :: undef :: undef :: undef :: undef :: undef :: undef :: undef :: undef :: undef :: undef :: undef :: undef :: undef :: undef :: undef :: undef :: undef :: undef :: undef :: undef :: undef :: undef :: undef :: undef :: undef :: undef :: undef :: undef :: undef :: undef :: undef :: undef :: undef :: undef :: undef :: []), []⟩) (v := .bool false) rfl rfl (ex_assign _) ?_
  refine seq_nil ?_
  refine seq_lit ?_
  refine sq_val (a' := ⟨List.toArray ((nv 6 a.l) :: (nv 6 b.l) :: (.int .i64 n) :: (.int .u32 (s : Int)) :: (.int .u32 (t : Int)) :: (.pointer (some ⟨w.heap.size, 0, none⟩)) :: (.pointer (some ⟨w1.heap.size, 0, none⟩)) :: undef :: undef :: undef :: (.bool false) :: undef :: undef :: undef :: (.int .i64 n) :: undef :: undef :: undef :: undef :: undef :: undef :: undef :: undef :: undef :: undef :: undef :: undef :: undef :: undef :: undef :: undef :: undef :: undef :: undef :: undef :: undef :: undef :: undef :: undef :: undef :: undef :: undef :: undef :: undef :: undef :: undef :: undef :: undef :: undef :: undef :: undef :: undef :: undef :: undef :: undef :: undef :: undef :: undef :: undef :: undef :: undef :: undef :: undef :: undef :: undef :: undef :: undef :: undef :: undef :: undef :: undef :: undef :: undef :: undef :: undef :: undef :: undef :: undef :: undef :: undef :: undef :: undef :: undef :: undef :: undef :: []), []⟩) (v := .int .i64 n) rfl rfl (ex_move _) ?_
  refine sq_val (a' := ⟨List.toArray ((nv 6 a.l) :: (nv 6 b.l) :: (.int .i64 n) :: (.int .u32 (s : Int)) :: (.int .u32 (t : Int)) :: (.pointer (some ⟨w.heap.size, 0, none⟩)) :: (.pointer (some ⟨w1.heap.size, 0, none⟩)) :: undef :: undef :: undef :: (.bool false) :: undef :: undef :: undef :: (.int .i64 n) :: (.int .i64 (max n 0)) :: undef :: undef :: undef :: undef :: undef :: undef :: undef :: undef :: undef :: undef :: undef :: undef :: undef :: undef :: undef :: undef :: undef :: undef :: undef :: undef :: undef :: undef :: undef :: undef :: undef :: undef :: undef :: undef :: undef :: undef :: undef :: undef :: undef :: undef :: undef :: undef :: undef :: undef :: undef :: undef :: undef :: undef :: undef :: undef :: undef :: undef :: undef :: undef :: undef :: undef :: undef :: undef :: undef :: undef :: undef :: undef :: undef :: undef :: undef :: undef :: undef :: undef :: undef :: undef :: undef :: undef :: undef :: undef :: undef :: []), []⟩) (v := .int .i64 (max n 0)) rfl rfl (ex_imax rfl rfl) ?_
  refine sq_val (a' := ⟨List.toArray ((nv 6 a.l) :: (nv 6 b.l) :: (.int .i64 n) :: (.int .u32 (s : Int)) :: (.int .u32 (t : Int)) :: (.pointer (some ⟨w.heap.size, 0, none⟩)) :: (.pointer (some ⟨w1.heap.size, 0, none⟩)) :: undef :: undef :: undef :: (.bool false) :: undef :: undef :: undef :: (.int .i64 n) :: (.int .i64 (max n 0)) :: (.int .i64 (m : Int)) :: undef :: undef :: undef :: undef :: undef :: undef :: undef :: undef :: undef :: undef :: undef :: undef :: undef :: undef :: undef :: undef :: undef :: undef :: undef :: undef :: undef :: undef :: undef :: undef :: undef :: undef :: undef :: undef :: undef :: undef :: undef :: undef :: undef :: undef :: undef :: undef :: undef :: undef :: undef :: undef :: undef :: undef :: undef :: undef :: undef :: undef :: undef :: undef :: undef :: undef :: undef :: undef :: undef :: undef :: undef :: undef :: undef :: undef :: undef :: undef :: undef :: undef :: undef :: undef :: undef :: undef :: undef :: undef :: []), []⟩) (v := .int .i64 (m : Int)) rfl rfl ((by rw [← hm]; exact ex_imin rfl rfl)) ?_
  refine sq_val (a' := ⟨List.toArray ((nv 6 a.l) :: (nv 6 b.l) :: (.int .i64 (m : Int)) :: (.int .u32 (s : Int)) :: (.int .u32 (t : Int)) :: (.pointer (some ⟨w.heap.size, 0, none⟩)) :: (.pointer (some ⟨w1.heap.size, 0, none⟩)) :: undef :: undef :: undef :: (.bool false) :: undef :: undef :: undef :: (.int .i64 n) :: (.int .i64 (max n 0)) :: (.int .i64 (m : Int)) :: undef :: undef :: undef :: undef :: undef :: undef :: undef :: undef :: undef :: undef :: undef :: undef :: undef :: undef :: undef :: undef :: undef :: undef :: undef :: undef :: undef :: undef :: undef :: undef :: undef :: undef :: undef :: undef :: undef :: undef :: undef :: undef :: undef :: undef :: undef :: undef :: undef :: undef :: undef :: undef :: undef :: undef :: undef :: undef :: undef :: undef :: undef :: undef :: undef :: undef :: undef :: undef :: undef :: undef :: undef :: undef :: undef :: undef :: undef :: undef :: undef :: undef :: undef :: undef :: undef :: undef :: undef :: undef :: []), []⟩) (v := .int .i64 (m : Int)) rfl rfl (ex_assign _) ?_
  refine seq_nil ?_
  refine seq_lit ?_
  refine sq_val (a' := ⟨List.toArray ((nv 6 a.l) :: (nv 6 b.l) :: (.int .i64 (m : Int)) :: (.int .u32 (s : Int)) :: (.int .u32 (t : Int)) :: (.pointer (some ⟨w.heap.size, 0, none⟩)) :: (.pointer (some ⟨w1.heap.size, 0, none⟩)) :: undef :: undef :: undef :: (.bool false) :: (.func (.func 18) #[] #[]) :: undef :: undef :: (.int .i64 n) :: (.int .i64 (max n 0)) :: (.int .i64 (m : Int)) :: undef :: undef :: undef :: undef :: undef :: undef :: undef :: undef :: undef :: undef :: undef :: undef :: undef :: undef :: undef :: undef :: undef :: undef :: undef :: undef :: undef :: undef :: undef :: undef :: undef :: undef :: undef :: undef :: undef :: undef :: undef :: undef :: undef :: undef :: undef :: undef :: undef :: undef :: undef :: undef :: undef :: undef :: undef :: undef :: undef :: undef :: undef :: undef :: undef :: undef :: undef :: undef :: undef :: undef :: undef :: undef :: undef :: undef :: undef :: undef :: undef :: undef :: undef :: undef :: undef :: undef :: undef :: undef :: []), []⟩) (v := .func (.func 18) #[] #[]) rfl rfl (ex_assign _) ?_
  refine seq_nil ?_
  refine wp_seq ?_
  refine wp_seq (wp_region_p (F := ⟨List.toArray ((nv 6 a.l) :: (nv 6 b.l) :: (.int .i64 (m : Int)) :: (.int .u32 (s : Int)) :: (.int .u32 (t : Int)) :: (.pointer (some ⟨w.heap.size, 0, none⟩)) :: (.pointer (some ⟨w1.heap.size, 0, none⟩)) :: undef :: undef :: undef :: (.bool false) :: (.func (.func 18) #[] #[]) :: undef :: undef :: (.int .i64 n) :: (.int .i64 (max n 0)) :: (.int .i64 (m : Int)) :: (.func (.func 18) #[] #[]) :: (nv 6 a.l) :: (.int .i64 (m : Int)) :: (.int .u64 (m : Int)) :: (nv 6 e.l) :: (nv 6 a.l) :: (nv 6 x.l) :: (.int .i64 (m : Int)) :: (nv 6 e.l) :: (.bool false) :: undef :: undef :: undef :: undef :: undef :: undef :: undef :: undef :: undef :: undef :: undef :: undef :: undef :: undef :: undef :: undef :: undef :: undef :: undef :: undef :: undef :: undef :: undef :: undef :: undef :: undef :: undef :: undef :: undef :: undef :: undef :: undef :: undef :: undef :: undef :: undef :: undef :: undef :: undef :: undef :: undef :: undef :: undef :: undef :: undef :: undef :: undef :: undef :: undef :: undef :: undef :: undef :: undef :: undef :: undef :: undef :: undef :: undef :: []), []⟩) (S := Bel w3) [(17, .func (.func 18) #[] #[]), (18, nv 6 a.l), (19, .int .i64 (m : Int)), (20, .int .u64 (m : Int)), (21, nv 6 e.l), (22, nv 6 a.l), (23, nv 6 x.l), (24, .int .i64 (m : Int)), (25, nv 6 e.l), (26, .bool false)] (by kernel_rfl) (by kernel_rfl) (by kernel_rfl) (by kernel_rfl) rfl (by simp only [putAll, List.setIfInBounds_toArray, List.set_cons_zero, List.set_cons_succ]) (Bel.start _) ?_ ?_)
  · refine PlanSteps.cons (ps_val (v := .func (.func 18) #[] #[]) rfl rfl rfl (fun W' h => ex_move _)) ?_
    refine PlanSteps.cons (ps_val (v := nv 6 a.l) rfl rfl rfl (fun W' h => ex_loadn (K := 6) (k := 0) (j := 12) (l := a.l) flFp12 rfl (A4.keep h.out) rfl _ rfl)) ?_
    refine PlanSteps.cons (ps_val (v := .int .i64 (m : Int)) rfl rfl rfl (fun W' h => ex_move _)) ?_
    refine PlanSteps.cons (ps_val (v := .int .u64 (m : Int)) rfl rfl rfl (fun W' h => ex_conv6464 (a := (m : Int)) rfl (by omega) (by omega))) ?_
    refine PlanSteps.cons (ps_call (v := nv 6 e.l) rfl rfl rfl (fun W' => ex_call (vs := [nv 6 a.l, .int .u64 (m : Int)]) rfl Try.call18 rfl) (fun W' h => fullPows1_q ha (by omega) he _)) ?_
    refine PlanSteps.cons (ps_val (v := nv 6 a.l) rfl rfl rfl (fun W' h => ex_loadn (K := 6) (k := 0) (j := 12) (l := a.l) flFp12 rfl (A4.keep h.out) rfl _ rfl)) ?_
    refine PlanSteps.cons (ps_call (v := nv 6 x.l) rfl rfl rfl (fun W' => ex_call (vs := [nv 6 a.l]) rfl Try.call8 rfl) (fun W' h => r7Clean_q ha hx _)) ?_
    refine PlanSteps.cons (ps_val (v := .int .i64 (m : Int)) rfl rfl rfl (fun W' h => ex_move _)) ?_
    refine PlanSteps.cons (ps_call (v := nv 6 e.l) rfl rfl rfl (fun W' => ex_call (vs := [nv 6 x.l, .int .i64 (m : Int)]) rfl Try.call20 rfl) (fun W' h => r7Pow_q hx hm5 he _)) ?_
    refine PlanSteps.cons (ps_val (v := .bool false) rfl rfl rfl (fun W' h => ex_neqt (K := 6) (l := e.l) eqFp12 rfl rfl rfl rfl)) ?_
    exact PlanSteps.nil
  intro w7 hb7
  refine then_n ?_
  have A8 := A4.keep hb7.out
  have A9 := N3.keep hb7.out
  have HB10 := below_then HB5 hb7.out
  refine wp_cond_false rfl ?_
  refine wp_skip (then_n ?_)
  refine wp_seq (wp_region_two (F := fun γ => ⟨List.toArray ((nv 6 a.l) :: (nv 6 b.l) :: (.int .i64 (m : Int)) :: (.int .u32 (s : Int)) :: (.int .u32 (t : Int)) :: (.pointer (some ⟨w.heap.size, 0, none⟩)) :: (.pointer (some ⟨w1.heap.size, 0, none⟩)) :: undef :: undef :: undef :: (.bool false) :: (.func (.func 18) #[] #[]) :: (.pointer (some ⟨γ.1, 0, none⟩)) :: (.pointer (some ⟨γ.2, 0, none⟩)) :: (.int .i64 n) :: (.int .i64 (max n 0)) :: (.int .i64 (m : Int)) :: (.func (.func 18) #[] #[]) :: (nv 6 a.l) :: (.int .i64 (m : Int)) :: (.int .u64 (m : Int)) :: (nv 6 e.l) :: (nv 6 a.l) :: (nv 6 x.l) :: (.int .i64 (m : Int)) :: (nv 6 e.l) :: (.bool false) :: (.func (.func 18) #[] #[]) :: (nv 6 a.l) :: (.int .u32 (s : Int)) :: (.int .u64 (s : Int)) :: (nv 6 f.l) :: (.func (.func 18) #[] #[]) :: (nv 6 a.l) :: (.int .u32 (t : Int)) :: (.int .u64 (t : Int)) :: (nv 6 g.l) :: undef :: undef :: undef :: undef :: undef :: undef :: undef :: undef :: undef :: undef :: undef :: undef :: undef :: undef :: undef :: undef :: undef :: undef :: undef :: undef :: undef :: undef :: undef :: undef :: undef :: undef :: undef :: undef :: undef :: undef :: undef :: undef :: undef :: undef :: undef :: undef :: undef :: undef :: undef :: undef :: undef :: undef :: undef :: undef :: undef :: undef :: undef :: undef :: []), []⟩) 30 30 6 10 11 12 13 [0, 0, 0, 0, 0, 0, 0, 0, 0, 0, 0, 0] [0, 0, 0, 0, 0, 0, 0, 0, 0, 0, 0, 0] f.l g.l [(12, .pointer (some ⟨0, 0, none⟩)), (13, .pointer (some ⟨0, 0, none⟩)), (27, .func (.func 18) #[] #[]), (28, nv 6 a.l), (29, .int .u32 (s : Int)), (30, .int .u64 (s : Int)), (31, nv 6 f.l), (32, .func (.func 18) #[] #[]), (33, nv 6 a.l), (34, .int .u32 (t : Int)), (35, .int .u64 (t : Int)), (36, nv 6 g.l)] (by kernel_rfl) (by kernel_rfl) (by kernel_rfl) (by kernel_rfl) rfl (by simp only [putAll, List.setIfInBounds_toArray, List.set_cons_zero, List.set_cons_succ]) rfl rfl rfl rfl ?_ ?_)
  · refine GSteps.cons (gs_val (v := .func (.func 18) #[] #[]) rfl (fun γ => rfl) (fun γ => rfl) (fun γ W' h => ex_move _) rfl rfl rfl rfl) ?_
    refine GSteps.cons (gs_val (v := nv 6 a.l) rfl (fun γ => rfl) (fun γ => rfl) (fun γ W' h => ex_loadn (K := 6) (k := 0) (j := 12) (l := a.l) flFp12 rfl (A8.keep h.out) rfl _ rfl) rfl rfl rfl rfl) ?_
    refine GSteps.cons (gs_val (v := .int .u32 (s : Int)) rfl (fun γ => rfl) (fun γ => rfl) (fun γ W' h => ex_move _) rfl rfl rfl rfl) ?_
    refine GSteps.cons (gs_val (v := .int .u64 (s : Int)) rfl (fun γ => rfl) (fun γ => rfl) (fun γ W' h => ex_conv3264 (a := (s : Int)) rfl (by omega) (by omega)) rfl rfl rfl rfl) ?_
    refine GSteps.cons (gs_call (v := nv 6 f.l) rfl (fun γ => rfl) (fun γ => rfl) (fun γ W' => ex_call (vs := [nv 6 a.l, .int .u64 (s : Int)]) rfl Try.call18 rfl) (fun W' h => fullPows1_q ha (by omega) hf _) rfl rfl rfl rfl) ?_
    refine GSteps.cons (gs_val (v := .func (.func 18) #[] #[]) rfl (fun γ => rfl) (fun γ => rfl) (fun γ W' h => ex_move _) rfl rfl rfl rfl) ?_
    refine GSteps.cons (gs_val (v := nv 6 a.l) rfl (fun γ => rfl) (fun γ => rfl) (fun γ W' h => ex_loadn (K := 6) (k := 0) (j := 12) (l := a.l) flFp12 rfl (A8.keep h.out) rfl _ rfl) rfl rfl rfl rfl) ?_
    refine GSteps.cons (gs_val (v := .int .u32 (t : Int)) rfl (fun γ => rfl) (fun γ => rfl) (fun γ W' h => ex_move _) rfl rfl rfl rfl) ?_
    refine GSteps.cons (gs_val (v := .int .u64 (t : Int)) rfl (fun γ => rfl) (fun γ => rfl) (fun γ W' h => ex_conv3264 (a := (t : Int)) rfl (by omega) (by omega)) rfl rfl rfl rfl) ?_
    refine GSteps.cons (gs_call (v := nv 6 g.l) rfl (fun γ => rfl) (fun γ => rfl) (fun γ W' => ex_call (vs := [nv 6 a.l, .int .u64 (t : Int)]) rfl Try.call18 rfl) (fun W' h => fullPows1_q ha (by omega) hg _) rfl rfl rfl rfl) ?_
    refine GSteps.cons (gs_new1 (fun γ => rfl) (fun γ n => rfl) (fun γ W' => ex_alloc zFp12) rfl rfl rfl rfl (by kernel_rfl)) ?_
    refine GSteps.cons (gs_new2 (fun γ => rfl) (fun γ n => rfl) (fun γ W' => ex_alloc zFp12) rfl rfl rfl rfl (by kernel_rfl)) ?_
    refine GSteps.cons (gs_store1 rfl (fun γ => rfl) rfl (fun γ W' hA => ex_storen (K := 6) (l := [0, 0, 0, 0, 0, 0, 0, 0, 0, 0, 0, 0]) (m := f.l) flFp12 rfl rfl hA rfl) rfl rfl rfl rfl rfl (by kernel_rfl) (by kernel_rfl)) ?_
    refine GSteps.cons (gs_store2 rfl (fun γ => rfl) rfl (fun γ W' hA => ex_storen (K := 6) (l := [0, 0, 0, 0, 0, 0, 0, 0, 0, 0, 0, 0]) (m := g.l) flFp12 rfl rfl hA rfl) rfl rfl rfl rfl rfl (by kernel_rfl) (by kernel_rfl)) ?_
    exact GSteps.nil
  intro g11 h11 w11 hb11 le11 lf11 ne11 N11 M11
  refine then_n ?_
  have A12 := A8.keep hb11.out
  have A13 := A9.keep hb11.out
  have HB14 := below_then HB10 hb11.out
  refine wp_seq (wp_region_p (F := ⟨List.toArray ((nv 6 a.l) :: (nv 6 b.l) :: (.int .i64 (m : Int)) :: (.int .u32 (s : Int)) :: (.int .u32 (t : Int)) :: (.pointer (some ⟨w.heap.size, 0, none⟩)) :: (.pointer (some ⟨w1.heap.size, 0, none⟩)) :: undef :: undef :: undef :: (.bool true) :: (.func (.func 18) #[] #[]) :: (.pointer (some ⟨g11, 0, none⟩)) :: (.pointer (some ⟨h11, 0, none⟩)) :: (.int .i64 n) :: (.int .i64 (max n 0)) :: (.int .i64 (m : Int)) :: (.func (.func 18) #[] #[]) :: (nv 6 a.l) :: (.int .i64 (m : Int)) :: (.int .u64 (m : Int)) :: (nv 6 e.l) :: (nv 6 a.l) :: (nv 6 x.l) :: (.int .i64 (m : Int)) :: (nv 6 e.l) :: (.bool false) :: (.func (.func 18) #[] #[]) :: (nv 6 a.l) :: (.int .u32 (s : Int)) :: (.int .u64 (s : Int)) :: (nv 6 f.l) :: (.func (.func 18) #[] #[]) :: (nv 6 a.l) :: (.int .u32 (t : Int)) :: (.int .u64 (t : Int)) :: (nv 6 g.l) :: (.bool true) :: (.bool true) :: (nv 6 f.l) :: (nv 6 g.l) :: (nv 6 k.l) :: (.func (.func 18) #[] #[]) :: (nv 6 a.l) :: (.int .u32 (s : Int)) :: (.int .u64 (s : Int)) :: (.int .u32 (t : Int)) :: (.int .u64 (t : Int)) :: (.int .u64 ((s + t : Nat) : Int)) :: (nv 6 k.l) :: (.bool true) :: (.bool true) :: (.bool true) :: (.func (.func 18) #[] #[]) :: (nv 6 f.l) :: (.int .u32 (t : Int)) :: (.int .u64 (t : Int)) :: (nv 6 p.l) :: (.func (.func 18) #[] #[]) :: (nv 6 a.l) :: (.int .u32 (s : Int)) :: (.int .u64 (s : Int)) :: (.int .u32 (t : Int)) :: (.int .u64 (t : Int)) :: (.int .u64 ((s * t : Nat) : Int)) :: (nv 6 p.l) :: (.bool true) :: (.bool true) :: (.bool true) :: (.func (.func 18) #[] #[]) :: (nv 6 a.l) :: (nv 6 b.l) :: (nv 6 q.l) :: (.int .u32 (s : Int)) :: (.int .u64 (s : Int)) :: (nv 6 z.l) :: (nv 6 f.l) :: (.func (.func 18) #[] #[]) :: (nv 6 b.l) :: (.int .u32 (s : Int)) :: (.int .u64 (s : Int)) :: (nv 6 o.l) :: (nv 6 z.l) :: (.bool true) :: (.bool true) :: []), []⟩) (S := Bel w11) [(37, .bool true), (38, .bool true), (39, nv 6 f.l), (40, nv 6 g.l), (41, nv 6 k.l), (42, .func (.func 18) #[] #[]), (43, nv 6 a.l), (44, .int .u32 (s : Int)), (45, .int .u64 (s : Int)), (46, .int .u32 (t : Int)), (47, .int .u64 (t : Int)), (48, .int .u64 ((s + t : Nat) : Int)), (49, nv 6 k.l), (50, .bool true), (51, .bool true), (52, .bool true), (53, .func (.func 18) #[] #[]), (54, nv 6 f.l), (55, .int .u32 (t : Int)), (56, .int .u64 (t : Int)), (57, nv 6 p.l), (58, .func (.func 18) #[] #[]), (59, nv 6 a.l), (60, .int .u32 (s : Int)), (61, .int .u64 (s : Int)), (62, .int .u32 (t : Int)), (63, .int .u64 (t : Int)), (64, .int .u64 ((s * t : Nat) : Int)), (65, nv 6 p.l), (66, .bool true), (67, .bool true), (68, .bool true), (69, .func (.func 18) #[] #[]), (70, nv 6 a.l), (71, nv 6 b.l), (72, nv 6 q.l), (73, .int .u32 (s : Int)), (74, .int .u64 (s : Int)), (75, nv 6 z.l), (76, nv 6 f.l), (77, .func (.func 18) #[] #[]), (78, nv 6 b.l), (79, .int .u32 (s : Int)), (80, .int .u64 (s : Int)), (81, nv 6 o.l), (82, nv 6 z.l), (83, .bool true), (84, .bool true), (10, .bool true)] (by kernel_rfl) (by kernel_rfl) (by kernel_rfl) (by kernel_rfl) rfl (by simp only [putAll, List.setIfInBounds_toArray, List.set_cons_zero, List.set_cons_succ]) (Bel.start _) ?_ ?_)
  · refine PlanSteps.cons (ps_call (v := .bool true) rfl rfl rfl (fun W' => ex_call (vs := []) rfl Try.call9 rfl) (fun W' h => fullalive_w _)) ?_
    refine PlanSteps.cons (ps_val (v := .bool true) rfl rfl rfl (fun W' h => ex_move _)) ?_
    refine PlanSteps.cons (ps_val (v := nv 6 f.l) rfl rfl rfl (fun W' h => ex_loadn (K := 6) (k := 0) (j := 12) (l := f.l) flFp12 rfl (N11.keep h.out) rfl _ rfl)) ?_
    refine PlanSteps.cons (ps_val (v := nv 6 g.l) rfl rfl rfl (fun W' h => ex_loadn (K := 6) (k := 0) (j := 12) (l := g.l) flFp12 rfl (M11.keep h.out) rfl _ rfl)) ?_
    refine PlanSteps.cons (ps_call (v := nv 6 k.l) rfl rfl rfl (fun W' => ex_call (vs := [nv 6 f.l, nv 6 g.l]) rfl Try.call15 rfl) (fun W' h => fullMul_q hf.toB hg.toB (hk.of (Semi.pow_add S12 X s t)) _)) ?_
    refine PlanSteps.cons (ps_val (v := .func (.func 18) #[] #[]) rfl rfl rfl (fun W' h => ex_move _)) ?_
    refine PlanSteps.cons (ps_val (v := nv 6 a.l) rfl rfl rfl (fun W' h => ex_loadn (K := 6) (k := 0) (j := 12) (l := a.l) flFp12 rfl (A12.keep h.out) rfl _ rfl)) ?_
    refine PlanSteps.cons (ps_val (v := .int .u32 (s : Int)) rfl rfl rfl (fun W' h => ex_move _)) ?_
    refine PlanSteps.cons (ps_val (v := .int .u64 (s : Int)) rfl rfl rfl (fun W' h => ex_conv3264 (a := (s : Int)) rfl (by omega) (by omega))) ?_
    refine PlanSteps.cons (ps_val (v := .int .u32 (t : Int)) rfl rfl rfl (fun W' h => ex_move _)) ?_
    refine PlanSteps.cons (ps_val (v := .int .u64 (t : Int)) rfl rfl rfl (fun W' h => ex_conv3264 (a := (t : Int)) rfl (by omega) (by omega))) ?_
    refine PlanSteps.cons (ps_val (v := .int .u64 ((s + t : Nat) : Int)) rfl rfl rfl (fun W' h => ex_iadd rfl rfl ((s + t : Nat) : Int) (by rw [wrap64 (by omega) (by omega)]; omega))) ?_
    refine PlanSteps.cons (ps_call (v := nv 6 k.l) rfl rfl rfl (fun W' => ex_call (vs := [nv 6 a.l, .int .u64 ((s + t : Nat) : Int)]) rfl Try.call18 rfl) (fun W' h => fullPows1_q ha (by omega) hk _)) ?_
    refine PlanSteps.cons (ps_val (v := .bool true) rfl rfl rfl (fun W' h => ex_eqt (K := 6) (l := k.l) eqFp12 rfl rfl rfl rfl)) ?_
    refine PlanSteps.cons (ps_val (v := .bool true) rfl rfl rfl (fun W' h => ex_pick (r := true) rfl)) ?_
    refine PlanSteps.cons (ps_val (v := .bool true) rfl rfl rfl (fun W' h => ex_move _)) ?_
    refine PlanSteps.cons (ps_val (v := .func (.func 18) #[] #[]) rfl rfl rfl (fun W' h => ex_move _)) ?_
    refine PlanSteps.cons (ps_val (v := nv 6 f.l) rfl rfl rfl (fun W' h => ex_loadn (K := 6) (k := 0) (j := 12) (l := f.l) flFp12 rfl (N11.keep h.out) rfl _ rfl)) ?_
    refine PlanSteps.cons (ps_val (v := .int .u32 (t : Int)) rfl rfl rfl (fun W' h => ex_move _)) ?_
    refine PlanSteps.cons (ps_val (v := .int .u64 (t : Int)) rfl rfl rfl (fun W' h => ex_conv3264 (a := (t : Int)) rfl (by omega) (by omega))) ?_
    refine PlanSteps.cons (ps_call (v := nv 6 p.l) rfl rfl rfl (fun W' => ex_call (vs := [nv 6 f.l, .int .u64 (t : Int)]) rfl Try.call18 rfl) (fun W' h => fullPows1_q hf.toB (by omega) (hp.of (Semi.pow_mul S12 X s t)) _)) ?_
    refine PlanSteps.cons (ps_val (v := .func (.func 18) #[] #[]) rfl rfl rfl (fun W' h => ex_move _)) ?_
    refine PlanSteps.cons (ps_val (v := nv 6 a.l) rfl rfl rfl (fun W' h => ex_loadn (K := 6) (k := 0) (j := 12) (l := a.l) flFp12 rfl (A12.keep h.out) rfl _ rfl)) ?_
    refine PlanSteps.cons (ps_val (v := .int .u32 (s : Int)) rfl rfl rfl (fun W' h => ex_move _)) ?_
    refine PlanSteps.cons (ps_val (v := .int .u64 (s : Int)) rfl rfl rfl (fun W' h => ex_conv3264 (a := (s : Int)) rfl (by omega) (by omega))) ?_
    refine PlanSteps.cons (ps_val (v := .int .u32 (t : Int)) rfl rfl rfl (fun W' h => ex_move _)) ?_
    refine PlanSteps.cons (ps_val (v := .int .u64 (t : Int)) rfl rfl rfl (fun W' h => ex_conv3264 (a := (t : Int)) rfl (by omega) (by omega))) ?_
    refine PlanSteps.cons (ps_val (v := .int .u64 ((s * t : Nat) : Int)) rfl rfl rfl (fun W' h => ex_imul rfl rfl ((s * t : Nat) : Int) (wrap_mul hst))) ?_
    refine PlanSteps.cons (ps_call (v := nv 6 p.l) rfl rfl rfl (fun W' => ex_call (vs := [nv 6 a.l, .int .u64 ((s * t : Nat) : Int)]) rfl Try.call18 rfl) (fun W' h => fullPows1_q ha hst hp _)) ?_
    refine PlanSteps.cons (ps_val (v := .bool true) rfl rfl rfl (fun W' h => ex_eqt (K := 6) (l := p.l) eqFp12 rfl rfl rfl rfl)) ?_
    refine PlanSteps.cons (ps_val (v := .bool true) rfl rfl rfl (fun W' h => ex_pick (r := true) rfl)) ?_
    refine PlanSteps.cons (ps_val (v := .bool true) rfl rfl rfl (fun W' h => ex_move _)) ?_
    refine PlanSteps.cons (ps_val (v := .func (.func 18) #[] #[]) rfl rfl rfl (fun W' h => ex_move _)) ?_
    refine PlanSteps.cons (ps_val (v := nv 6 a.l) rfl rfl rfl (fun W' h => ex_loadn (K := 6) (k := 0) (j := 12) (l := a.l) flFp12 rfl (A12.keep h.out) rfl _ rfl)) ?_
    refine PlanSteps.cons (ps_val (v := nv 6 b.l) rfl rfl rfl (fun W' h => ex_loadn (K := 6) (k := 0) (j := 12) (l := b.l) flFp12 rfl (A13.keep h.out) rfl _ rfl)) ?_
    refine PlanSteps.cons (ps_call (v := nv 6 q.l) rfl rfl rfl (fun W' => ex_call (vs := [nv 6 a.l, nv 6 b.l]) rfl Try.call15 rfl) (fun W' h => fullMul_q ha hb hq _)) ?_
    refine PlanSteps.cons (ps_val (v := .int .u32 (s : Int)) rfl rfl rfl (fun W' h => ex_move _)) ?_
    refine PlanSteps.cons (ps_val (v := .int .u64 (s : Int)) rfl rfl rfl (fun W' h => ex_conv3264 (a := (s : Int)) rfl (by omega) (by omega))) ?_
    refine PlanSteps.cons (ps_call (v := nv 6 z.l) rfl rfl rfl (fun W' => ex_call (vs := [nv 6 q.l, .int .u64 (s : Int)]) rfl Try.call18 rfl) (fun W' h => fullPows1_q hq.toB (by omega) hz _)) ?_
    refine PlanSteps.cons (ps_val (v := nv 6 f.l) rfl rfl rfl (fun W' h => ex_loadn (K := 6) (k := 0) (j := 12) (l := f.l) flFp12 rfl (N11.keep h.out) rfl _ rfl)) ?_
    refine PlanSteps.cons (ps_val (v := .func (.func 18) #[] #[]) rfl rfl rfl (fun W' h => ex_move _)) ?_
    refine PlanSteps.cons (ps_val (v := nv 6 b.l) rfl rfl rfl (fun W' h => ex_loadn (K := 6) (k := 0) (j := 12) (l := b.l) flFp12 rfl (A13.keep h.out) rfl _ rfl)) ?_
    refine PlanSteps.cons (ps_val (v := .int .u32 (s : Int)) rfl rfl rfl (fun W' h => ex_move _)) ?_
    refine PlanSteps.cons (ps_val (v := .int .u64 (s : Int)) rfl rfl rfl (fun W' h => ex_conv3264 (a := (s : Int)) rfl (by omega) (by omega))) ?_
    refine PlanSteps.cons (ps_call (v := nv 6 o.l) rfl rfl rfl (fun W' => ex_call (vs := [nv 6 b.l, .int .u64 (s : Int)]) rfl Try.call18 rfl) (fun W' h => fullPows1_q hb (by omega) ho _)) ?_
    refine PlanSteps.cons (ps_call (v := nv 6 z.l) rfl rfl rfl (fun W' => ex_call (vs := [nv 6 f.l, nv 6 o.l]) rfl Try.call15 rfl) (fun W' h => fullMul_q hf.toB ho.toB (hz.of (Semi.mul_pow S12 X Y s)) _)) ?_
    refine PlanSteps.cons (ps_val (v := .bool true) rfl rfl rfl (fun W' h => ex_eqt (K := 6) (l := z.l) eqFp12 rfl rfl rfl rfl)) ?_
    refine PlanSteps.cons (ps_val (v := .bool true) rfl rfl rfl (fun W' h => ex_pick (r := true) rfl)) ?_
    refine PlanSteps.cons (ps_val (v := .bool true) rfl rfl rfl (fun W' h => ex_assign _)) ?_
    exact PlanSteps.nil
  intro w15 hb15
  refine then_n ?_
  have A16 := A12.keep hb15.out
  have A17 := A13.keep hb15.out
  have A18 := N11.keep hb15.out
  have A19 := M11.keep hb15.out
  have HB20 := below_then HB14 hb15.out
  exact wp_ret (bodyPost_ret (ret_tmp Try.results5 rfl) rfl ⟨rfl, HB20⟩)

theorem fullPows_i (a b : N12) (n s t : Int) (w : World) (la : ∀ x ∈ a.l, x < fpB) (lb : ∀ x ∈ b.l, x < fpB) (s0 : 0 ≤ s) (s1 : s ≤ 4294967295) (t0 : 0 ≤ t) (t1 : t ≤ 4294967295) :
    Calls Try.prog 5 #[nv 6 a.l, nv 6 b.l, .int .i64 n, .int .u32 s, .int .u32 t] w (Is (.bool true) w) := by
  obtain ⟨s, rfl⟩ := Int.eq_ofNat_of_zero_le s0
  obtain ⟨t, rfl⟩ := Int.eq_ofNat_of_zero_le t0
  exact fullPows_v a b n s t w la lb (by omega) (by omega)

end Go.Proofs.Ytodabjelnllkgaa

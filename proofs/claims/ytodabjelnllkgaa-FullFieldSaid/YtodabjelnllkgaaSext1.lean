/- What is proved here: what the functions of package sext and of its reference answer, by numbers that stand for whole numbers modulo p. -/
import Derived.Test.YtodabjelnllkgaaTySext
namespace Go.Proofs.Ytodabjelnllkgaa
open Go.RowKit

theorem duoClean_r {a0 a1 : Nat} {x0 x1 : Int} (ra0 : Rep a0 x0) (ra1 : Rep a1 x1) (la0 : a0 < fpB) (la1 : a1 < fpB) {v0 v1 : Nat} (bv0 : v0 < pN) (bv1 : v1 < pN) (rv0 : Rep v0 (x0)) (rv1 : Rep v1 (x1)) (w : World) :
    Calls Try.prog 61 #[nv 6 [a0, a1]] w (Is (nv 6 [v0, v1]) w) :=
  duoClean_e a0 a1 w la0 la1 v0 v1 (rep_uniq bv0 (pCl_P _) rv0 (rep_cl ra0) rfl) (rep_uniq bv1 (pCl_P _) rv1 (rep_cl ra1) rfl)

theorem duoNeg_r {a0 a1 : Nat} {x0 x1 : Int} (ra0 : Rep a0 x0) (ra1 : Rep a1 x1) (la0 : a0 < fpB) (la1 : a1 < fpB) {v0 v1 : Nat} (bv0 : v0 < pN) (bv1 : v1 < pN) (rv0 : Rep v0 (-x0)) (rv1 : Rep v1 (-x1)) (w : World) :
    Calls Try.prog 64 #[nv 6 [a0, a1]] w (Is (nv 6 [v0, v1]) w) :=
  duoNeg_e a0 a1 w la0 la1 v0 v1 (rep_uniq bv0 (pNeg_P _) rv0 (rep_neg ra0) rfl) (rep_uniq bv1 (pNeg_P _) rv1 (rep_neg ra1) rfl)

theorem duoAdd_r {a0 a1 b0 b1 : Nat} {x0 x1 y0 y1 : Int} (ra0 : Rep a0 x0) (ra1 : Rep a1 x1) (rb0 : Rep b0 y0) (rb1 : Rep b1 y1) (la0 : a0 < fpB) (la1 : a1 < fpB) (lb0 : b0 < fpB) (lb1 : b1 < fpB) {v0 v1 : Nat} (bv0 : v0 < pN) (bv1 : v1 < pN) (rv0 : Rep v0 (x0 + y0)) (rv1 : Rep v1 (x1 + y1)) (w : World) :
    Calls Try.prog 62 #[nv 6 [a0, a1], nv 6 [b0, b1]] w (Is (nv 6 [v0, v1]) w) :=
  duoAdd_e a0 a1 b0 b1 w la0 la1 lb0 lb1 v0 v1 (rep_uniq bv0 (pAdd_P _ _) rv0 (rep_add ra0 rb0) rfl) (rep_uniq bv1 (pAdd_P _ _) rv1 (rep_add ra1 rb1) rfl)

theorem duoMul_r {a0 a1 b0 b1 : Nat} {x0 x1 y0 y1 : Int} (ra0 : Rep a0 x0) (ra1 : Rep a1 x1) (rb0 : Rep b0 y0) (rb1 : Rep b1 y1) (la0 : a0 < fpB) (la1 : a1 < fpB) (lb0 : b0 < fpB) (lb1 : b1 < fpB) {v0 v1 : Nat} (bv0 : v0 < pN) (bv1 : v1 < pN) (rv0 : Rep v0 (x0 * y0 - x1 * y1)) (rv1 : Rep v1 (x0 * y1 + x1 * y0)) (w : World) :
    Calls Try.prog 69 #[nv 6 [a0, a1], nv 6 [b0, b1]] w (Is (nv 6 [v0, v1]) w) :=
  duoMul_e a0 a1 b0 b1 w la0 la1 lb0 lb1 v0 v1 (rep_uniq bv0 (pSub_P _ _) rv0 (rep_sub (rep_mul ra0 rb0) (rep_mul ra1 rb1)) rfl) (rep_uniq bv1 (pAdd_P _ _) rv1 (rep_add (rep_mul ra0 rb1) (rep_mul ra1 rb0)) rfl)

theorem duoSub_r {a0 a1 b0 b1 : Nat} {x0 x1 y0 y1 : Int} (ra0 : Rep a0 x0) (ra1 : Rep a1 x1) (rb0 : Rep b0 y0) (rb1 : Rep b1 y1) (la0 : a0 < fpB) (la1 : a1 < fpB) (lb0 : b0 < fpB) (lb1 : b1 < fpB) {v0 v1 : Nat} (bv0 : v0 < pN) (bv1 : v1 < pN) (rv0 : Rep v0 (x0 - y0)) (rv1 : Rep v1 (x1 - y1)) (w : World) :
    Calls Try.prog 67 #[nv 6 [a0, a1], nv 6 [b0, b1]] w (Is (nv 6 [v0, v1]) w) :=
  duoSub_e a0 a1 b0 b1 w la0 la1 lb0 lb1 v0 v1 (rep_uniq bv0 (pSub_P _ _) rv0 (rep_sub ra0 rb0) rfl) (rep_uniq bv1 (pSub_P _ _) rv1 (rep_sub ra1 rb1) rfl)

theorem duoConj_r {a0 a1 : Nat} {x0 x1 : Int} (ra0 : Rep a0 x0) (ra1 : Rep a1 x1) (la0 : a0 < fpB) (la1 : a1 < fpB) {v0 v1 : Nat} (bv0 : v0 < pN) (bv1 : v1 < pN) (rv0 : Rep v0 (x0)) (rv1 : Rep v1 (-x1)) (w : World) :
    Calls Try.prog 68 #[nv 6 [a0, a1]] w (Is (nv 6 [v0, v1]) w) :=
  duoConj_e a0 a1 w la0 la1 v0 v1 (rep_uniq bv0 (pCl_P _) rv0 (rep_cl ra0) rfl) (rep_uniq bv1 (pNeg_P _) rv1 (rep_neg ra1) rfl)

set_option maxRecDepth 20000 in
set_option maxHeartbeats 4000000 in
theorem sextall_w (f : FuncId) (hf : ∀ (args : Array Value) (w : World), (callFunc f args).run Try.prog w = .ok (.enter f args) w) (R : Value) (v0 v1 v2 v3 v4 v5 : Nat) (h0 : ∀ w, Calls Try.prog f #[R, .int .i64 0] w (Is (nv 6 [v0, v1]) w)) (h1 : ∀ w, Calls Try.prog f #[R, .int .i64 1] w (Is (nv 6 [v2, v3]) w)) (h2 : ∀ w, Calls Try.prog f #[R, .int .i64 2] w (Is (nv 6 [v4, v5]) w)) (w : World) :
    Calls Try.prog 43 #[.func (.func f) #[R] #[]] w (Is (nv 6 [v0, v1, v2, v3, v4, v5]) w) := by
  go_enter Try.func43, Try.ntmps43
  refine seq_lit ?_
  refine sq_new (a' := ⟨#[.func (.func f) #[R] #[], undef, .pointer (some ⟨w.heap.size, 0, none⟩), undef, undef, undef, undef, undef, undef, undef], []⟩) (xs := rows 6 [0, 0, 0, 0, 0, 0]) rfl rfl (ex_alloc zFp6) ?_
  intro w1 N1 hb1
  have HB2 := below_then (Below.refl w.heap.size w) hb1
  refine seq_nil ?_
  refine seq_lit ?_
  refine sq_val (a' := ⟨#[.func (.func f) #[R] #[], undef, .pointer (some ⟨w.heap.size, 0, none⟩), .func (.func f) #[R] #[], undef, undef, undef, undef, undef, undef], []⟩) (v := .func (.func f) #[R] #[]) rfl rfl (ex_move _) ?_
  refine sq_call (a' := ⟨#[.func (.func f) #[R] #[], undef, .pointer (some ⟨w.heap.size, 0, none⟩), .func (.func f) #[R] #[], nv 6 [v0, v1], undef, undef, undef, undef, undef], []⟩) (v := nv 6 [v0, v1]) rfl rfl (ex_callb (vs := [.int .i64 0]) rfl hf rfl) (h0 _) ?_
  intro w3 hb3
  have A4 := N1.keep hb3
  have HB5 := below_then HB2 hb3
  refine sq_val (a' := ⟨#[.func (.func f) #[R] #[], undef, .pointer (some ⟨w.heap.size, 0, none⟩), .func (.func f) #[R] #[], nv 6 [v0, v1], .func (.func f) #[R] #[], undef, undef, undef, undef], []⟩) (v := .func (.func f) #[R] #[]) rfl rfl (ex_move _) ?_
  refine sq_call (a' := ⟨#[.func (.func f) #[R] #[], undef, .pointer (some ⟨w.heap.size, 0, none⟩), .func (.func f) #[R] #[], nv 6 [v0, v1], .func (.func f) #[R] #[], nv 6 [v2, v3], undef, undef, undef], []⟩) (v := nv 6 [v2, v3]) rfl rfl (ex_callb (vs := [.int .i64 1]) rfl hf rfl) (h1 _) ?_
  intro w6 hb6
  have A7 := A4.keep hb6
  have HB8 := below_then HB5 hb6
  refine sq_val (a' := ⟨#[.func (.func f) #[R] #[], undef, .pointer (some ⟨w.heap.size, 0, none⟩), .func (.func f) #[R] #[], nv 6 [v0, v1], .func (.func f) #[R] #[], nv 6 [v2, v3], .func (.func f) #[R] #[], undef, undef], []⟩) (v := .func (.func f) #[R] #[]) rfl rfl (ex_move _) ?_
  refine sq_call (a' := ⟨#[.func (.func f) #[R] #[], undef, .pointer (some ⟨w.heap.size, 0, none⟩), .func (.func f) #[R] #[], nv 6 [v0, v1], .func (.func f) #[R] #[], nv 6 [v2, v3], .func (.func f) #[R] #[], nv 6 [v4, v5], undef], []⟩) (v := nv 6 [v4, v5]) rfl rfl (ex_callb (vs := [.int .i64 2]) rfl hf rfl) (h2 _) ?_
  intro w9 hb9
  have A10 := A7.keep hb9
  have HB11 := below_then HB8 hb9
  refine sq_val (a' := ⟨#[.func (.func f) #[R] #[], undef, .pointer (some ⟨w.heap.size, 0, none⟩), .func (.func f) #[R] #[], nv 6 [v0, v1], .func (.func f) #[R] #[], nv 6 [v2, v3], .func (.func f) #[R] #[], nv 6 [v4, v5], nv 6 [v0, v1, v2, v3, v4, v5]], []⟩) (v := nv 6 [v0, v1, v2, v3, v4, v5]) rfl rfl (ex_build stFp6 (vs := [(0, nv 6 [v0, v1]), (1, nv 6 [v2, v3]), (2, nv 6 [v4, v5])]) rfl (bdABC v0 v1 v2 v3 v4 v5)) ?_
  refine sq_store (a' := ⟨#[.func (.func f) #[R] #[], undef, .pointer (some ⟨w.heap.size, 0, none⟩), .func (.func f) #[R] #[], nv 6 [v0, v1], .func (.func f) #[R] #[], nv 6 [v2, v3], .func (.func f) #[R] #[], nv 6 [v4, v5], nv 6 [v0, v1, v2, v3, v4, v5]], []⟩) (t := 28) (xs := rows 6 [0, 0, 0, 0, 0, 0]) (ys := rows 6 [v0, v1, v2, v3, v4, v5]) rfl rfl A10 (len_rows rfl) (ex_storen (K := 6) (l := [0, 0, 0, 0, 0, 0]) (m := [v0, v1, v2, v3, v4, v5]) flFp6 rfl rfl A10 rfl) ?_
  intro w12 N12 hst12 hoth12
  have HB13 := hst12 _ _ HB11 (Nat.le_refl _)
  refine seq_nil ?_
  exact wp_ret (bodyPost_ret (ret_celln (K := 6) Try.results43 rfl N12 flFp6) rfl ⟨rfl, HB13⟩)

set_option maxRecDepth 20000 in
set_option maxHeartbeats 4000000 in
theorem sextrow_w (a0 a1 a2 a3 a4 a5 : Nat) (w : World) :
    Calls Try.prog 44 #[nv 6 [a0, a1, a2, a3, a4, a5]] w (Is (nv 6 [a0, a1, a2, a3, a4, a5]) w) := by
  go_enter Try.func44, Try.ntmps44
  refine seq_lit ?_
  refine sq_new (a' := ⟨#[nv 6 [a0, a1, a2, a3, a4, a5], .pointer (some ⟨w.heap.size, 0, none⟩), undef, undef, undef, undef, undef, undef, undef, undef], []⟩) (xs := rows 6 [a0, a1, a2, a3, a4, a5]) rfl rfl (ex_boxn (K := 6) (l := [a0, a1, a2, a3, a4, a5]) rfl) ?_
  intro w1 N1 hb1
  have HB2 := below_then (Below.refl w.heap.size w) hb1
  refine sq_new (a' := ⟨#[nv 6 [a0, a1, a2, a3, a4, a5], .pointer (some ⟨w.heap.size, 0, none⟩), .pointer (some ⟨w1.heap.size, 0, none⟩), undef, undef, undef, undef, undef, undef, undef], []⟩) (xs := rows 6 [0, 0, 0, 0, 0, 0]) rfl rfl (ex_alloc zParts) ?_
  intro w3 N3 hb3
  have A4 := N1.keep hb3
  have HB5 := below_then HB2 hb3
  refine seq_nil ?_
  refine seq_lit ?_
  refine sq_val (a' := ⟨#[nv 6 [a0, a1, a2, a3, a4, a5], .pointer (some ⟨w.heap.size, 0, none⟩), .pointer (some ⟨w1.heap.size, 0, none⟩), .pointer (some ⟨w.heap.size, 0, none⟩), undef, undef, undef, undef, undef, undef], []⟩) (v := .pointer (some ⟨w.heap.size, 0, none⟩)) rfl rfl (ex_field faFp6_0 rfl) ?_
  refine sq_val (a' := ⟨#[nv 6 [a0, a1, a2, a3, a4, a5], .pointer (some ⟨w.heap.size, 0, none⟩), .pointer (some ⟨w1.heap.size, 0, none⟩), .pointer (some ⟨w.heap.size, 0, none⟩), nv 6 [a0, a1], undef, undef, undef, undef, undef], []⟩) (v := nv 6 [a0, a1]) rfl rfl (ex_loadn (K := 6) (k := 0) (j := 2) (l := [a0, a1, a2, a3, a4, a5]) flFp2 rfl A4 rfl _ rfl) ?_
  refine sq_val (a' := ⟨#[nv 6 [a0, a1, a2, a3, a4, a5], .pointer (some ⟨w.heap.size, 0, none⟩), .pointer (some ⟨w1.heap.size, 0, none⟩), .pointer (some ⟨w.heap.size, 0, none⟩), nv 6 [a0, a1], .pointer (some ⟨w.heap.size, 12, none⟩), undef, undef, undef, undef], []⟩) (v := .pointer (some ⟨w.heap.size, 12, none⟩)) rfl rfl (ex_field faFp6_1 rfl) ?_
  refine sq_val (a' := ⟨#[nv 6 [a0, a1, a2, a3, a4, a5], .pointer (some ⟨w.heap.size, 0, none⟩), .pointer (some ⟨w1.heap.size, 0, none⟩), .pointer (some ⟨w.heap.size, 0, none⟩), nv 6 [a0, a1], .pointer (some ⟨w.heap.size, 12, none⟩), nv 6 [a2, a3], undef, undef, undef], []⟩) (v := nv 6 [a2, a3]) rfl rfl (ex_loadn (K := 6) (k := 2) (j := 2) (l := [a0, a1, a2, a3, a4, a5]) flFp2 rfl A4 rfl _ rfl) ?_
  refine sq_val (a' := ⟨#[nv 6 [a0, a1, a2, a3, a4, a5], .pointer (some ⟨w.heap.size, 0, none⟩), .pointer (some ⟨w1.heap.size, 0, none⟩), .pointer (some ⟨w.heap.size, 0, none⟩), nv 6 [a0, a1], .pointer (some ⟨w.heap.size, 12, none⟩), nv 6 [a2, a3], .pointer (some ⟨w.heap.size, 24, none⟩), undef, undef], []⟩) (v := .pointer (some ⟨w.heap.size, 24, none⟩)) rfl rfl (ex_field faFp6_2 rfl) ?_
  refine sq_val (a' := ⟨#[nv 6 [a0, a1, a2, a3, a4, a5], .pointer (some ⟨w.heap.size, 0, none⟩), .pointer (some ⟨w1.heap.size, 0, none⟩), .pointer (some ⟨w.heap.size, 0, none⟩), nv 6 [a0, a1], .pointer (some ⟨w.heap.size, 12, none⟩), nv 6 [a2, a3], .pointer (some ⟨w.heap.size, 24, none⟩), nv 6 [a4, a5], undef], []⟩) (v := nv 6 [a4, a5]) rfl rfl (ex_loadn (K := 6) (k := 4) (j := 2) (l := [a0, a1, a2, a3, a4, a5]) flFp2 rfl A4 rfl _ rfl) ?_
  refine sq_val (a' := ⟨#[nv 6 [a0, a1, a2, a3, a4, a5], .pointer (some ⟨w.heap.size, 0, none⟩), .pointer (some ⟨w1.heap.size, 0, none⟩), .pointer (some ⟨w.heap.size, 0, none⟩), nv 6 [a0, a1], .pointer (some ⟨w.heap.size, 12, none⟩), nv 6 [a2, a3], .pointer (some ⟨w.heap.size, 24, none⟩), nv 6 [a4, a5], nv 6 [a0, a1, a2, a3, a4, a5]], []⟩) (v := nv 6 [a0, a1, a2, a3, a4, a5]) rfl rfl (ex_builda arParts (vs := [(0, nv 6 [a0, a1]), (1, nv 6 [a2, a3]), (2, nv 6 [a4, a5])]) rfl (bdRow a0 a1 a2 a3 a4 a5)) ?_
  refine sq_store (a' := ⟨#[nv 6 [a0, a1, a2, a3, a4, a5], .pointer (some ⟨w.heap.size, 0, none⟩), .pointer (some ⟨w1.heap.size, 0, none⟩), .pointer (some ⟨w.heap.size, 0, none⟩), nv 6 [a0, a1], .pointer (some ⟨w.heap.size, 12, none⟩), nv 6 [a2, a3], .pointer (some ⟨w.heap.size, 24, none⟩), nv 6 [a4, a5], nv 6 [a0, a1, a2, a3, a4, a5]], []⟩) (t := 55) (xs := rows 6 [0, 0, 0, 0, 0, 0]) (ys := rows 6 [a0, a1, a2, a3, a4, a5]) rfl rfl N3 (len_rows rfl) (ex_storen (K := 6) (l := [0, 0, 0, 0, 0, 0]) (m := [a0, a1, a2, a3, a4, a5]) flParts rfl rfl N3 rfl) ?_
  intro w7 N7 hst7 hoth7
  have A8 := hoth7 _ _ _ (Nat.ne_of_lt N1.lt) A4
  have HB9 := hst7 _ _ HB5 HB2.size
  refine seq_nil ?_
  exact wp_ret (bodyPost_ret (ret_celln (K := 6) Try.results44 rfl N7 flParts) rfl ⟨rfl, HB9⟩)

set_option maxRecDepth 20000 in
set_option maxHeartbeats 4000000 in
theorem sextbeside_w (a0 a1 a2 a3 a4 a5 b0 b1 b2 b3 b4 b5 : Nat) (w : World) :
    Calls Try.prog 46 #[nv 6 [a0, a1, a2, a3, a4, a5], nv 6 [b0, b1, b2, b3, b4, b5]] w (Is (nv 6 [a0, a1, a2, a3, a4, a5, b0, b1, b2, b3, b4, b5]) w) := by
  go_enter Try.func46, Try.ntmps46
  refine seq_lit ?_
  refine sq_new (a' := ⟨#[nv 6 [a0, a1, a2, a3, a4, a5], nv 6 [b0, b1, b2, b3, b4, b5], .pointer (some ⟨w.heap.size, 0, none⟩), undef, undef, undef, undef, undef, undef, undef], []⟩) (xs := rows 6 [a0, a1, a2, a3, a4, a5]) rfl rfl (ex_boxn (K := 6) (l := [a0, a1, a2, a3, a4, a5]) rfl) ?_
  intro w1 N1 hb1
  have HB2 := below_then (Below.refl w.heap.size w) hb1
  refine sq_new (a' := ⟨#[nv 6 [a0, a1, a2, a3, a4, a5], nv 6 [b0, b1, b2, b3, b4, b5], .pointer (some ⟨w.heap.size, 0, none⟩), .pointer (some ⟨w1.heap.size, 0, none⟩), undef, undef, undef, undef, undef, undef], []⟩) (xs := rows 6 [b0, b1, b2, b3, b4, b5]) rfl rfl (ex_boxn (K := 6) (l := [b0, b1, b2, b3, b4, b5]) rfl) ?_
  intro w3 N3 hb3
  have A4 := N1.keep hb3
  have HB5 := below_then HB2 hb3
  refine sq_new (a' := ⟨#[nv 6 [a0, a1, a2, a3, a4, a5], nv 6 [b0, b1, b2, b3, b4, b5], .pointer (some ⟨w.heap.size, 0, none⟩), .pointer (some ⟨w1.heap.size, 0, none⟩), .pointer (some ⟨w3.heap.size, 0, none⟩), undef, undef, undef, undef, undef], []⟩) (xs := rows 6 [0, 0, 0, 0, 0, 0, 0, 0, 0, 0, 0, 0]) rfl rfl (ex_alloc zCouple) ?_
  intro w7 N7 hb7
  have A8 := A4.keep hb7
  have A9 := N3.keep hb7
  have HB10 := below_then HB5 hb7
  refine seq_nil ?_
  refine wp_seq (wp_region_last (F := ⟨#[nv 6 [a0, a1, a2, a3, a4, a5], nv 6 [b0, b1, b2, b3, b4, b5], .pointer (some ⟨w.heap.size, 0, none⟩), .pointer (some ⟨w1.heap.size, 0, none⟩), .pointer (some ⟨w3.heap.size, 0, none⟩), nv 6 [a0, a1, a2, a3, a4, a5], nv 6 [a0, a1, a2, a3, a4, a5], nv 6 [b0, b1, b2, b3, b4, b5], nv 6 [b0, b1, b2, b3, b4, b5], nv 6 [a0, a1, a2, a3, a4, a5, b0, b1, b2, b3, b4, b5]], []⟩) (S := Bel w7) [(5, nv 6 [a0, a1, a2, a3, a4, a5]), (6, nv 6 [a0, a1, a2, a3, a4, a5]), (7, nv 6 [b0, b1, b2, b3, b4, b5]), (8, nv 6 [b0, b1, b2, b3, b4, b5]), (9, nv 6 [a0, a1, a2, a3, a4, a5, b0, b1, b2, b3, b4, b5])] 5 _ (by kernel_rfl) (by kernel_rfl) (by kernel_rfl) (by kernel_rfl) rfl rfl (by kernel_rfl) rfl (by simp only [putAll, List.setIfInBounds_toArray, List.set_cons_zero, List.set_cons_succ]) (Bel.start _) ?_ ?_)
  · refine PlanInit.cons (ps_val (v := nv 6 [a0, a1, a2, a3, a4, a5]) rfl rfl rfl (fun W' h => ex_loadn (K := 6) (k := 0) (j := 6) (l := [a0, a1, a2, a3, a4, a5]) flFp6 rfl (A8.keep h.out) rfl _ rfl)) ?_
    refine PlanInit.cons (ps_call (v := nv 6 [a0, a1, a2, a3, a4, a5]) rfl rfl rfl (fun W' => ex_call (vs := [nv 6 [a0, a1, a2, a3, a4, a5]]) rfl Try.call44 rfl) (fun W' h => sextrow_w a0 a1 a2 a3 a4 a5 _)) ?_
    refine PlanInit.cons (ps_val (v := nv 6 [b0, b1, b2, b3, b4, b5]) rfl rfl rfl (fun W' h => ex_loadn (K := 6) (k := 0) (j := 6) (l := [b0, b1, b2, b3, b4, b5]) flFp6 rfl (A9.keep h.out) rfl _ rfl)) ?_
    refine PlanInit.cons (ps_call (v := nv 6 [b0, b1, b2, b3, b4, b5]) rfl rfl rfl (fun W' => ex_call (vs := [nv 6 [b0, b1, b2, b3, b4, b5]]) rfl Try.call44 rfl) (fun W' h => sextrow_w b0 b1 b2 b3 b4 b5 _)) ?_
    refine PlanInit.cons (ps_val (v := nv 6 [a0, a1, a2, a3, a4, a5, b0, b1, b2, b3, b4, b5]) rfl rfl rfl (fun W' h => ex_build stCouple (vs := [(0, nv 6 [a0, a1, a2, a3, a4, a5]), (1, nv 6 [b0, b1, b2, b3, b4, b5])]) rfl (bdXY a0 a1 a2 a3 a4 a5 b0 b1 b2 b3 b4 b5))) ?_
    exact PlanInit.one
  refine last_store (t := 58) (xs := rows 6 [0, 0, 0, 0, 0, 0, 0, 0, 0, 0, 0, 0]) (ys := rows 6 [a0, a1, a2, a3, a4, a5, b0, b1, b2, b3, b4, b5]) rfl rfl (fun W' h => N7.keep h.out) (len_rows rfl) (fun W' h => ex_storen (K := 6) (l := [0, 0, 0, 0, 0, 0, 0, 0, 0, 0, 0, 0]) (m := [a0, a1, a2, a3, a4, a5, b0, b1, b2, b3, b4, b5]) flCouple rfl rfl (N7.keep h.out) rfl) ?_
  intro w13 w14 hb13 N14 hst14 hoth14
  refine then_n ?_
  have A15 := A8.keep hb13.out
  have A16 := A9.keep hb13.out
  have A17 := N7.keep hb13.out
  have HB18 := below_then HB10 hb13.out
  have A19 := hoth14 _ _ _ (Nat.ne_of_lt A4.lt) A15
  have A20 := hoth14 _ _ _ (Nat.ne_of_lt N3.lt) A16
  have HB21 := hst14 _ _ HB18 HB5.size
  exact wp_ret (bodyPost_ret (ret_celln (K := 6) Try.results46 rfl N14 flCouple) rfl ⟨rfl, HB21⟩)

set_option maxRecDepth 20000 in
set_option maxHeartbeats 4000000 in
theorem partsclean_0 (a0 a1 a2 a3 a4 a5 v0 v1 : Nat) (hc : ∀ w, Calls Try.prog 61 #[nv 6 [a0, a1]] w (Is (nv 6 [v0, v1]) w)) (w : World) :
    Calls Try.prog 45 #[nv 6 [a0, a1, a2, a3, a4, a5], .int .i64 0] w (Is (nv 6 [v0, v1]) w) := by
  go_enter Try.func45, Try.ntmps45
  refine seq_lit ?_
  refine sq_new (a' := ⟨#[nv 6 [a0, a1, a2, a3, a4, a5], .int .i64 0, .pointer (some ⟨w.heap.size, 0, none⟩), undef, undef, undef, undef, undef, undef], []⟩) (xs := rows 6 [a0, a1, a2, a3, a4, a5]) rfl rfl (ex_boxn (K := 6) (l := [a0, a1, a2, a3, a4, a5]) rfl) ?_
  intro w1 N1 hb1
  have HB2 := below_then (Below.refl w.heap.size w) hb1
  refine sq_new (a' := ⟨#[nv 6 [a0, a1, a2, a3, a4, a5], .int .i64 0, .pointer (some ⟨w.heap.size, 0, none⟩), undef, .pointer (some ⟨w1.heap.size, 0, none⟩), undef, undef, undef, undef], []⟩) (xs := rows 6 [0, 0]) rfl rfl (ex_alloc zFp2) ?_
  intro w3 N3 hb3
  have A4 := N1.keep hb3
  have HB5 := below_then HB2 hb3
  refine seq_nil ?_
  refine seq_lit ?_
  refine sq_val (a' := ⟨#[nv 6 [a0, a1, a2, a3, a4, a5], .int .i64 0, .pointer (some ⟨w.heap.size, 0, none⟩), undef, .pointer (some ⟨w1.heap.size, 0, none⟩), .int .i64 0, undef, undef, undef], []⟩) (v := .int .i64 0) rfl rfl (ex_move _) ?_
  refine sq_val (a' := ⟨#[nv 6 [a0, a1, a2, a3, a4, a5], .int .i64 0, .pointer (some ⟨w.heap.size, 0, none⟩), undef, .pointer (some ⟨w1.heap.size, 0, none⟩), .int .i64 0, .pointer (some ⟨w.heap.size, 0, none⟩), undef, undef], []⟩) (v := .pointer (some ⟨w.heap.size, 0, none⟩)) rfl rfl (ex_index 0 arParts rfl rfl (by decide)) ?_
  refine sq_val (a' := ⟨#[nv 6 [a0, a1, a2, a3, a4, a5], .int .i64 0, .pointer (some ⟨w.heap.size, 0, none⟩), undef, .pointer (some ⟨w1.heap.size, 0, none⟩), .int .i64 0, .pointer (some ⟨w.heap.size, 0, none⟩), nv 6 [a0, a1], undef], []⟩) (v := nv 6 [a0, a1]) rfl rfl (ex_loadn (K := 6) (k := 0) (j := 2) (l := [a0, a1, a2, a3, a4, a5]) flFp2 rfl A4 rfl _ rfl) ?_
  refine sq_call (a' := ⟨#[nv 6 [a0, a1, a2, a3, a4, a5], .int .i64 0, .pointer (some ⟨w.heap.size, 0, none⟩), undef, .pointer (some ⟨w1.heap.size, 0, none⟩), .int .i64 0, .pointer (some ⟨w.heap.size, 0, none⟩), nv 6 [a0, a1], nv 6 [v0, v1]], []⟩) (v := nv 6 [v0, v1]) rfl rfl (ex_call (vs := [nv 6 [a0, a1]]) rfl Try.call61 rfl) (hc _) ?_
  intro w7 hb7
  have A8 := A4.keep hb7
  have A9 := N3.keep hb7
  have HB10 := below_then HB5 hb7
  refine sq_store (a' := ⟨#[nv 6 [a0, a1, a2, a3, a4, a5], .int .i64 0, .pointer (some ⟨w.heap.size, 0, none⟩), undef, .pointer (some ⟨w1.heap.size, 0, none⟩), .int .i64 0, .pointer (some ⟨w.heap.size, 0, none⟩), nv 6 [a0, a1], nv 6 [v0, v1]], []⟩) (t := 26) (xs := rows 6 [0, 0]) (ys := rows 6 [v0, v1]) rfl rfl A9 (len_rows rfl) (ex_storen (K := 6) (l := [0, 0]) (m := [v0, v1]) flFp2 rfl rfl A9 rfl) ?_
  intro w11 N11 hst11 hoth11
  have A12 := hoth11 _ _ _ (Nat.ne_of_lt N1.lt) A8
  have HB13 := hst11 _ _ HB10 HB2.size
  refine seq_nil ?_
  exact wp_ret (bodyPost_ret (ret_celln (K := 6) Try.results45 rfl N11 flFp2) rfl ⟨rfl, HB13⟩)

set_option maxRecDepth 20000 in
set_option maxHeartbeats 4000000 in
theorem partsclean_1 (a0 a1 a2 a3 a4 a5 v0 v1 : Nat) (hc : ∀ w, Calls Try.prog 61 #[nv 6 [a2, a3]] w (Is (nv 6 [v0, v1]) w)) (w : World) :
    Calls Try.prog 45 #[nv 6 [a0, a1, a2, a3, a4, a5], .int .i64 1] w (Is (nv 6 [v0, v1]) w) := by
  go_enter Try.func45, Try.ntmps45
  refine seq_lit ?_
  refine sq_new (a' := ⟨#[nv 6 [a0, a1, a2, a3, a4, a5], .int .i64 1, .pointer (some ⟨w.heap.size, 0, none⟩), undef, undef, undef, undef, undef, undef], []⟩) (xs := rows 6 [a0, a1, a2, a3, a4, a5]) rfl rfl (ex_boxn (K := 6) (l := [a0, a1, a2, a3, a4, a5]) rfl) ?_
  intro w1 N1 hb1
  have HB2 := below_then (Below.refl w.heap.size w) hb1
  refine sq_new (a' := ⟨#[nv 6 [a0, a1, a2, a3, a4, a5], .int .i64 1, .pointer (some ⟨w.heap.size, 0, none⟩), undef, .pointer (some ⟨w1.heap.size, 0, none⟩), undef, undef, undef, undef], []⟩) (xs := rows 6 [0, 0]) rfl rfl (ex_alloc zFp2) ?_
  intro w3 N3 hb3
  have A4 := N1.keep hb3
  have HB5 := below_then HB2 hb3
  refine seq_nil ?_
  refine seq_lit ?_
  refine sq_val (a' := ⟨#[nv 6 [a0, a1, a2, a3, a4, a5], .int .i64 1, .pointer (some ⟨w.heap.size, 0, none⟩), undef, .pointer (some ⟨w1.heap.size, 0, none⟩), .int .i64 1, undef, undef, undef], []⟩) (v := .int .i64 1) rfl rfl (ex_move _) ?_
  refine sq_val (a' := ⟨#[nv 6 [a0, a1, a2, a3, a4, a5], .int .i64 1, .pointer (some ⟨w.heap.size, 0, none⟩), undef, .pointer (some ⟨w1.heap.size, 0, none⟩), .int .i64 1, .pointer (some ⟨w.heap.size, 12, none⟩), undef, undef], []⟩) (v := .pointer (some ⟨w.heap.size, 12, none⟩)) rfl rfl (ex_index 1 arParts rfl rfl (by decide)) ?_
  refine sq_val (a' := ⟨#[nv 6 [a0, a1, a2, a3, a4, a5], .int .i64 1, .pointer (some ⟨w.heap.size, 0, none⟩), undef, .pointer (some ⟨w1.heap.size, 0, none⟩), .int .i64 1, .pointer (some ⟨w.heap.size, 12, none⟩), nv 6 [a2, a3], undef], []⟩) (v := nv 6 [a2, a3]) rfl rfl (ex_loadn (K := 6) (k := 2) (j := 2) (l := [a0, a1, a2, a3, a4, a5]) flFp2 rfl A4 rfl _ rfl) ?_
  refine sq_call (a' := ⟨#[nv 6 [a0, a1, a2, a3, a4, a5], .int .i64 1, .pointer (some ⟨w.heap.size, 0, none⟩), undef, .pointer (some ⟨w1.heap.size, 0, none⟩), .int .i64 1, .pointer (some ⟨w.heap.size, 12, none⟩), nv 6 [a2, a3], nv 6 [v0, v1]], []⟩) (v := nv 6 [v0, v1]) rfl rfl (ex_call (vs := [nv 6 [a2, a3]]) rfl Try.call61 rfl) (hc _) ?_
  intro w7 hb7
  have A8 := A4.keep hb7
  have A9 := N3.keep hb7
  have HB10 := below_then HB5 hb7
  refine sq_store (a' := ⟨#[nv 6 [a0, a1, a2, a3, a4, a5], .int .i64 1, .pointer (some ⟨w.heap.size, 0, none⟩), undef, .pointer (some ⟨w1.heap.size, 0, none⟩), .int .i64 1, .pointer (some ⟨w.heap.size, 12, none⟩), nv 6 [a2, a3], nv 6 [v0, v1]], []⟩) (t := 26) (xs := rows 6 [0, 0]) (ys := rows 6 [v0, v1]) rfl rfl A9 (len_rows rfl) (ex_storen (K := 6) (l := [0, 0]) (m := [v0, v1]) flFp2 rfl rfl A9 rfl) ?_
  intro w11 N11 hst11 hoth11
  have A12 := hoth11 _ _ _ (Nat.ne_of_lt N1.lt) A8
  have HB13 := hst11 _ _ HB10 HB2.size
  refine seq_nil ?_
  exact wp_ret (bodyPost_ret (ret_celln (K := 6) Try.results45 rfl N11 flFp2) rfl ⟨rfl, HB13⟩)

set_option maxRecDepth 20000 in
set_option maxHeartbeats 4000000 in
theorem partsclean_2 (a0 a1 a2 a3 a4 a5 v0 v1 : Nat) (hc : ∀ w, Calls Try.prog 61 #[nv 6 [a4, a5]] w (Is (nv 6 [v0, v1]) w)) (w : World) :
    Calls Try.prog 45 #[nv 6 [a0, a1, a2, a3, a4, a5], .int .i64 2] w (Is (nv 6 [v0, v1]) w) := by
  go_enter Try.func45, Try.ntmps45
  refine seq_lit ?_
  refine sq_new (a' := ⟨#[nv 6 [a0, a1, a2, a3, a4, a5], .int .i64 2, .pointer (some ⟨w.heap.size, 0, none⟩), undef, undef, undef, undef, undef, undef], []⟩) (xs := rows 6 [a0, a1, a2, a3, a4, a5]) rfl rfl (ex_boxn (K := 6) (l := [a0, a1, a2, a3, a4, a5]) rfl) ?_
  intro w1 N1 hb1
  have HB2 := below_then (Below.refl w.heap.size w) hb1
  refine sq_new (a' := ⟨#[nv 6 [a0, a1, a2, a3, a4, a5], .int .i64 2, .pointer (some ⟨w.heap.size, 0, none⟩), undef, .pointer (some ⟨w1.heap.size, 0, none⟩), undef, undef, undef, undef], []⟩) (xs := rows 6 [0, 0]) rfl rfl (ex_alloc zFp2) ?_
  intro w3 N3 hb3
  have A4 := N1.keep hb3
  have HB5 := below_then HB2 hb3
  refine seq_nil ?_
  refine seq_lit ?_
  refine sq_val (a' := ⟨#[nv 6 [a0, a1, a2, a3, a4, a5], .int .i64 2, .pointer (some ⟨w.heap.size, 0, none⟩), undef, .pointer (some ⟨w1.heap.size, 0, none⟩), .int .i64 2, undef, undef, undef], []⟩) (v := .int .i64 2) rfl rfl (ex_move _) ?_
  refine sq_val (a' := ⟨#[nv 6 [a0, a1, a2, a3, a4, a5], .int .i64 2, .pointer (some ⟨w.heap.size, 0, none⟩), undef, .pointer (some ⟨w1.heap.size, 0, none⟩), .int .i64 2, .pointer (some ⟨w.heap.size, 24, none⟩), undef, undef], []⟩) (v := .pointer (some ⟨w.heap.size, 24, none⟩)) rfl rfl (ex_index 2 arParts rfl rfl (by decide)) ?_
  refine sq_val (a' := ⟨#[nv 6 [a0, a1, a2, a3, a4, a5], .int .i64 2, .pointer (some ⟨w.heap.size, 0, none⟩), undef, .pointer (some ⟨w1.heap.size, 0, none⟩), .int .i64 2, .pointer (some ⟨w.heap.size, 24, none⟩), nv 6 [a4, a5], undef], []⟩) (v := nv 6 [a4, a5]) rfl rfl (ex_loadn (K := 6) (k := 4) (j := 2) (l := [a0, a1, a2, a3, a4, a5]) flFp2 rfl A4 rfl _ rfl) ?_
  refine sq_call (a' := ⟨#[nv 6 [a0, a1, a2, a3, a4, a5], .int .i64 2, .pointer (some ⟨w.heap.size, 0, none⟩), undef, .pointer (some ⟨w1.heap.size, 0, none⟩), .int .i64 2, .pointer (some ⟨w.heap.size, 24, none⟩), nv 6 [a4, a5], nv 6 [v0, v1]], []⟩) (v := nv 6 [v0, v1]) rfl rfl (ex_call (vs := [nv 6 [a4, a5]]) rfl Try.call61 rfl) (hc _) ?_
  intro w7 hb7
  have A8 := A4.keep hb7
  have A9 := N3.keep hb7
  have HB10 := below_then HB5 hb7
  refine sq_store (a' := ⟨#[nv 6 [a0, a1, a2, a3, a4, a5], .int .i64 2, .pointer (some ⟨w.heap.size, 0, none⟩), undef, .pointer (some ⟨w1.heap.size, 0, none⟩), .int .i64 2, .pointer (some ⟨w.heap.size, 24, none⟩), nv 6 [a4, a5], nv 6 [v0, v1]], []⟩) (t := 26) (xs := rows 6 [0, 0]) (ys := rows 6 [v0, v1]) rfl rfl A9 (len_rows rfl) (ex_storen (K := 6) (l := [0, 0]) (m := [v0, v1]) flFp2 rfl rfl A9 rfl) ?_
  intro w11 N11 hst11 hoth11
  have A12 := hoth11 _ _ _ (Nat.ne_of_lt N1.lt) A8
  have HB13 := hst11 _ _ HB10 HB2.size
  refine seq_nil ?_
  exact wp_ret (bodyPost_ret (ret_celln (K := 6) Try.results45 rfl N11 flFp2) rfl ⟨rfl, HB13⟩)

set_option maxRecDepth 20000 in
set_option maxHeartbeats 4000000 in
theorem partsnegative_0 (a0 a1 a2 a3 a4 a5 v0 v1 : Nat) (hc : ∀ w, Calls Try.prog 64 #[nv 6 [a0, a1]] w (Is (nv 6 [v0, v1]) w)) (w : World) :
    Calls Try.prog 49 #[nv 6 [a0, a1, a2, a3, a4, a5], .int .i64 0] w (Is (nv 6 [v0, v1]) w) := by
  go_enter Try.func49, Try.ntmps49
  refine seq_lit ?_
  refine sq_new (a' := ⟨#[nv 6 [a0, a1, a2, a3, a4, a5], .int .i64 0, .pointer (some ⟨w.heap.size, 0, none⟩), undef, undef, undef, undef, undef, undef], []⟩) (xs := rows 6 [a0, a1, a2, a3, a4, a5]) rfl rfl (ex_boxn (K := 6) (l := [a0, a1, a2, a3, a4, a5]) rfl) ?_
  intro w1 N1 hb1
  have HB2 := below_then (Below.refl w.heap.size w) hb1
  refine sq_new (a' := ⟨#[nv 6 [a0, a1, a2, a3, a4, a5], .int .i64 0, .pointer (some ⟨w.heap.size, 0, none⟩), undef, .pointer (some ⟨w1.heap.size, 0, none⟩), undef, undef, undef, undef], []⟩) (xs := rows 6 [0, 0]) rfl rfl (ex_alloc zFp2) ?_
  intro w3 N3 hb3
  have A4 := N1.keep hb3
  have HB5 := below_then HB2 hb3
  refine seq_nil ?_
  refine seq_lit ?_
  refine sq_val (a' := ⟨#[nv 6 [a0, a1, a2, a3, a4, a5], .int .i64 0, .pointer (some ⟨w.heap.size, 0, none⟩), undef, .pointer (some ⟨w1.heap.size, 0, none⟩), .int .i64 0, undef, undef, undef], []⟩) (v := .int .i64 0) rfl rfl (ex_move _) ?_
  refine sq_val (a' := ⟨#[nv 6 [a0, a1, a2, a3, a4, a5], .int .i64 0, .pointer (some ⟨w.heap.size, 0, none⟩), undef, .pointer (some ⟨w1.heap.size, 0, none⟩), .int .i64 0, .pointer (some ⟨w.heap.size, 0, none⟩), undef, undef], []⟩) (v := .pointer (some ⟨w.heap.size, 0, none⟩)) rfl rfl (ex_index 0 arParts rfl rfl (by decide)) ?_
  refine sq_val (a' := ⟨#[nv 6 [a0, a1, a2, a3, a4, a5], .int .i64 0, .pointer (some ⟨w.heap.size, 0, none⟩), undef, .pointer (some ⟨w1.heap.size, 0, none⟩), .int .i64 0, .pointer (some ⟨w.heap.size, 0, none⟩), nv 6 [a0, a1], undef], []⟩) (v := nv 6 [a0, a1]) rfl rfl (ex_loadn (K := 6) (k := 0) (j := 2) (l := [a0, a1, a2, a3, a4, a5]) flFp2 rfl A4 rfl _ rfl) ?_
  refine sq_call (a' := ⟨#[nv 6 [a0, a1, a2, a3, a4, a5], .int .i64 0, .pointer (some ⟨w.heap.size, 0, none⟩), undef, .pointer (some ⟨w1.heap.size, 0, none⟩), .int .i64 0, .pointer (some ⟨w.heap.size, 0, none⟩), nv 6 [a0, a1], nv 6 [v0, v1]], []⟩) (v := nv 6 [v0, v1]) rfl rfl (ex_call (vs := [nv 6 [a0, a1]]) rfl Try.call64 rfl) (hc _) ?_
  intro w7 hb7
  have A8 := A4.keep hb7
  have A9 := N3.keep hb7
  have HB10 := below_then HB5 hb7
  refine sq_store (a' := ⟨#[nv 6 [a0, a1, a2, a3, a4, a5], .int .i64 0, .pointer (some ⟨w.heap.size, 0, none⟩), undef, .pointer (some ⟨w1.heap.size, 0, none⟩), .int .i64 0, .pointer (some ⟨w.heap.size, 0, none⟩), nv 6 [a0, a1], nv 6 [v0, v1]], []⟩) (t := 26) (xs := rows 6 [0, 0]) (ys := rows 6 [v0, v1]) rfl rfl A9 (len_rows rfl) (ex_storen (K := 6) (l := [0, 0]) (m := [v0, v1]) flFp2 rfl rfl A9 rfl) ?_
  intro w11 N11 hst11 hoth11
  have A12 := hoth11 _ _ _ (Nat.ne_of_lt N1.lt) A8
  have HB13 := hst11 _ _ HB10 HB2.size
  refine seq_nil ?_
  exact wp_ret (bodyPost_ret (ret_celln (K := 6) Try.results49 rfl N11 flFp2) rfl ⟨rfl, HB13⟩)

set_option maxRecDepth 20000 in
set_option maxHeartbeats 4000000 in
theorem partsnegative_1 (a0 a1 a2 a3 a4 a5 v0 v1 : Nat) (hc : ∀ w, Calls Try.prog 64 #[nv 6 [a2, a3]] w (Is (nv 6 [v0, v1]) w)) (w : World) :
    Calls Try.prog 49 #[nv 6 [a0, a1, a2, a3, a4, a5], .int .i64 1] w (Is (nv 6 [v0, v1]) w) := by
  go_enter Try.func49, Try.ntmps49
  refine seq_lit ?_
  refine sq_new (a' := ⟨#[nv 6 [a0, a1, a2, a3, a4, a5], .int .i64 1, .pointer (some ⟨w.heap.size, 0, none⟩), undef, undef, undef, undef, undef, undef], []⟩) (xs := rows 6 [a0, a1, a2, a3, a4, a5]) rfl rfl (ex_boxn (K := 6) (l := [a0, a1, a2, a3, a4, a5]) rfl) ?_
  intro w1 N1 hb1
  have HB2 := below_then (Below.refl w.heap.size w) hb1
  refine sq_new (a' := ⟨#[nv 6 [a0, a1, a2, a3, a4, a5], .int .i64 1, .pointer (some ⟨w.heap.size, 0, none⟩), undef, .pointer (some ⟨w1.heap.size, 0, none⟩), undef, undef, undef, undef], []⟩) (xs := rows 6 [0, 0]) rfl rfl (ex_alloc zFp2) ?_
  intro w3 N3 hb3
  have A4 := N1.keep hb3
  have HB5 := below_then HB2 hb3
  refine seq_nil ?_
  refine seq_lit ?_
  refine sq_val (a' := ⟨#[nv 6 [a0, a1, a2, a3, a4, a5], .int .i64 1, .pointer (some ⟨w.heap.size, 0, none⟩), undef, .pointer (some ⟨w1.heap.size, 0, none⟩), .int .i64 1, undef, undef, undef], []⟩) (v := .int .i64 1) rfl rfl (ex_move _) ?_
  refine sq_val (a' := ⟨#[nv 6 [a0, a1, a2, a3, a4, a5], .int .i64 1, .pointer (some ⟨w.heap.size, 0, none⟩), undef, .pointer (some ⟨w1.heap.size, 0, none⟩), .int .i64 1, .pointer (some ⟨w.heap.size, 12, none⟩), undef, undef], []⟩) (v := .pointer (some ⟨w.heap.size, 12, none⟩)) rfl rfl (ex_index 1 arParts rfl rfl (by decide)) ?_
  refine sq_val (a' := ⟨#[nv 6 [a0, a1, a2, a3, a4, a5], .int .i64 1, .pointer (some ⟨w.heap.size, 0, none⟩), undef, .pointer (some ⟨w1.heap.size, 0, none⟩), .int .i64 1, .pointer (some ⟨w.heap.size, 12, none⟩), nv 6 [a2, a3], undef], []⟩) (v := nv 6 [a2, a3]) rfl rfl (ex_loadn (K := 6) (k := 2) (j := 2) (l := [a0, a1, a2, a3, a4, a5]) flFp2 rfl A4 rfl _ rfl) ?_
  refine sq_call (a' := ⟨#[nv 6 [a0, a1, a2, a3, a4, a5], .int .i64 1, .pointer (some ⟨w.heap.size, 0, none⟩), undef, .pointer (some ⟨w1.heap.size, 0, none⟩), .int .i64 1, .pointer (some ⟨w.heap.size, 12, none⟩), nv 6 [a2, a3], nv 6 [v0, v1]], []⟩) (v := nv 6 [v0, v1]) rfl rfl (ex_call (vs := [nv 6 [a2, a3]]) rfl Try.call64 rfl) (hc _) ?_
  intro w7 hb7
  have A8 := A4.keep hb7
  have A9 := N3.keep hb7
  have HB10 := below_then HB5 hb7
  refine sq_store (a' := ⟨#[nv 6 [a0, a1, a2, a3, a4, a5], .int .i64 1, .pointer (some ⟨w.heap.size, 0, none⟩), undef, .pointer (some ⟨w1.heap.size, 0, none⟩), .int .i64 1, .pointer (some ⟨w.heap.size, 12, none⟩), nv 6 [a2, a3], nv 6 [v0, v1]], []⟩) (t := 26) (xs := rows 6 [0, 0]) (ys := rows 6 [v0, v1]) rfl rfl A9 (len_rows rfl) (ex_storen (K := 6) (l := [0, 0]) (m := [v0, v1]) flFp2 rfl rfl A9 rfl) ?_
  intro w11 N11 hst11 hoth11
  have A12 := hoth11 _ _ _ (Nat.ne_of_lt N1.lt) A8
  have HB13 := hst11 _ _ HB10 HB2.size
  refine seq_nil ?_
  exact wp_ret (bodyPost_ret (ret_celln (K := 6) Try.results49 rfl N11 flFp2) rfl ⟨rfl, HB13⟩)

set_option maxRecDepth 20000 in
set_option maxHeartbeats 4000000 in
theorem partsnegative_2 (a0 a1 a2 a3 a4 a5 v0 v1 : Nat) (hc : ∀ w, Calls Try.prog 64 #[nv 6 [a4, a5]] w (Is (nv 6 [v0, v1]) w)) (w : World) :
    Calls Try.prog 49 #[nv 6 [a0, a1, a2, a3, a4, a5], .int .i64 2] w (Is (nv 6 [v0, v1]) w) := by
  go_enter Try.func49, Try.ntmps49
  refine seq_lit ?_
  refine sq_new (a' := ⟨#[nv 6 [a0, a1, a2, a3, a4, a5], .int .i64 2, .pointer (some ⟨w.heap.size, 0, none⟩), undef, undef, undef, undef, undef, undef], []⟩) (xs := rows 6 [a0, a1, a2, a3, a4, a5]) rfl rfl (ex_boxn (K := 6) (l := [a0, a1, a2, a3, a4, a5]) rfl) ?_
  intro w1 N1 hb1
  have HB2 := below_then (Below.refl w.heap.size w) hb1
  refine sq_new (a' := ⟨#[nv 6 [a0, a1, a2, a3, a4, a5], .int .i64 2, .pointer (some ⟨w.heap.size, 0, none⟩), undef, .pointer (some ⟨w1.heap.size, 0, none⟩), undef, undef, undef, undef], []⟩) (xs := rows 6 [0, 0]) rfl rfl (ex_alloc zFp2) ?_
  intro w3 N3 hb3
  have A4 := N1.keep hb3
  have HB5 := below_then HB2 hb3
  refine seq_nil ?_
  refine seq_lit ?_
  refine sq_val (a' := ⟨#[nv 6 [a0, a1, a2, a3, a4, a5], .int .i64 2, .pointer (some ⟨w.heap.size, 0, none⟩), undef, .pointer (some ⟨w1.heap.size, 0, none⟩), .int .i64 2, undef, undef, undef], []⟩) (v := .int .i64 2) rfl rfl (ex_move _) ?_
  refine sq_val (a' := ⟨#[nv 6 [a0, a1, a2, a3, a4, a5], .int .i64 2, .pointer (some ⟨w.heap.size, 0, none⟩), undef, .pointer (some ⟨w1.heap.size, 0, none⟩), .int .i64 2, .pointer (some ⟨w.heap.size, 24, none⟩), undef, undef], []⟩) (v := .pointer (some ⟨w.heap.size, 24, none⟩)) rfl rfl (ex_index 2 arParts rfl rfl (by decide)) ?_
  refine sq_val (a' := ⟨#[nv 6 [a0, a1, a2, a3, a4, a5], .int .i64 2, .pointer (some ⟨w.heap.size, 0, none⟩), undef, .pointer (some ⟨w1.heap.size, 0, none⟩), .int .i64 2, .pointer (some ⟨w.heap.size, 24, none⟩), nv 6 [a4, a5], undef], []⟩) (v := nv 6 [a4, a5]) rfl rfl (ex_loadn (K := 6) (k := 4) (j := 2) (l := [a0, a1, a2, a3, a4, a5]) flFp2 rfl A4 rfl _ rfl) ?_
  refine sq_call (a' := ⟨#[nv 6 [a0, a1, a2, a3, a4, a5], .int .i64 2, .pointer (some ⟨w.heap.size, 0, none⟩), undef, .pointer (some ⟨w1.heap.size, 0, none⟩), .int .i64 2, .pointer (some ⟨w.heap.size, 24, none⟩), nv 6 [a4, a5], nv 6 [v0, v1]], []⟩) (v := nv 6 [v0, v1]) rfl rfl (ex_call (vs := [nv 6 [a4, a5]]) rfl Try.call64 rfl) (hc _) ?_
  intro w7 hb7
  have A8 := A4.keep hb7
  have A9 := N3.keep hb7
  have HB10 := below_then HB5 hb7
  refine sq_store (a' := ⟨#[nv 6 [a0, a1, a2, a3, a4, a5], .int .i64 2, .pointer (some ⟨w.heap.size, 0, none⟩), undef, .pointer (some ⟨w1.heap.size, 0, none⟩), .int .i64 2, .pointer (some ⟨w.heap.size, 24, none⟩), nv 6 [a4, a5], nv 6 [v0, v1]], []⟩) (t := 26) (xs := rows 6 [0, 0]) (ys := rows 6 [v0, v1]) rfl rfl A9 (len_rows rfl) (ex_storen (K := 6) (l := [0, 0]) (m := [v0, v1]) flFp2 rfl rfl A9 rfl) ?_
  intro w11 N11 hst11 hoth11
  have A12 := hoth11 _ _ _ (Nat.ne_of_lt N1.lt) A8
  have HB13 := hst11 _ _ HB10 HB2.size
  refine seq_nil ?_
  exact wp_ret (bodyPost_ret (ret_celln (K := 6) Try.results49 rfl N11 flFp2) rfl ⟨rfl, HB13⟩)

set_option maxRecDepth 20000 in
set_option maxHeartbeats 4000000 in
theorem couplesum_0 (a0 a1 a2 a3 a4 a5 b0 b1 b2 b3 b4 b5 v0 v1 : Nat) (hc : ∀ w, Calls Try.prog 62 #[nv 6 [a0, a1], nv 6 [b0, b1]] w (Is (nv 6 [v0, v1]) w)) (w : World) :
    Calls Try.prog 47 #[nv 6 [a0, a1, a2, a3, a4, a5, b0, b1, b2, b3, b4, b5], .int .i64 0] w (Is (nv 6 [v0, v1]) w) := by
  go_enter Try.func47, Try.ntmps47
  refine seq_lit ?_
  refine sq_new (a' := ⟨#[nv 6 [a0, a1, a2, a3, a4, a5, b0, b1, b2, b3, b4, b5], .int .i64 0, .pointer (some ⟨w.heap.size, 0, none⟩), undef, undef, undef, undef, undef, undef, undef, undef, undef, undef, undef], []⟩) (xs := rows 6 [a0, a1, a2, a3, a4, a5, b0, b1, b2, b3, b4, b5]) rfl rfl (ex_boxn (K := 6) (l := [a0, a1, a2, a3, a4, a5, b0, b1, b2, b3, b4, b5]) rfl) ?_
  intro w1 N1 hb1
  have HB2 := below_then (Below.refl w.heap.size w) hb1
  refine sq_new (a' := ⟨#[nv 6 [a0, a1, a2, a3, a4, a5, b0, b1, b2, b3, b4, b5], .int .i64 0, .pointer (some ⟨w.heap.size, 0, none⟩), undef, .pointer (some ⟨w1.heap.size, 0, none⟩), undef, undef, undef, undef, undef, undef, undef, undef, undef], []⟩) (xs := rows 6 [0, 0]) rfl rfl (ex_alloc zFp2) ?_
  intro w3 N3 hb3
  have A4 := N1.keep hb3
  have HB5 := below_then HB2 hb3
  refine seq_nil ?_
  refine wp_seq (wp_region_last (F := ⟨#[nv 6 [a0, a1, a2, a3, a4, a5, b0, b1, b2, b3, b4, b5], .int .i64 0, .pointer (some ⟨w.heap.size, 0, none⟩), undef, .pointer (some ⟨w1.heap.size, 0, none⟩), .int .i64 0, .pointer (some ⟨w.heap.size, 0, none⟩), .pointer (some ⟨w.heap.size, 0, none⟩), nv 6 [a0, a1], .int .i64 0, .pointer (some ⟨w.heap.size, 36, none⟩), .pointer (some ⟨w.heap.size, 36, none⟩), nv 6 [b0, b1], nv 6 [v0, v1]], []⟩) (S := Bel w3) [(5, .int .i64 0), (6, .pointer (some ⟨w.heap.size, 0, none⟩)), (7, .pointer (some ⟨w.heap.size, 0, none⟩)), (8, nv 6 [a0, a1]), (9, .int .i64 0), (10, .pointer (some ⟨w.heap.size, 36, none⟩)), (11, .pointer (some ⟨w.heap.size, 36, none⟩)), (12, nv 6 [b0, b1]), (13, nv 6 [v0, v1])] 9 _ (by kernel_rfl) (by kernel_rfl) (by kernel_rfl) (by kernel_rfl) rfl rfl (by kernel_rfl) rfl (by simp only [putAll, List.setIfInBounds_toArray, List.set_cons_zero, List.set_cons_succ]) (Bel.start _) ?_ ?_)
  · refine PlanInit.cons (ps_val (v := .int .i64 0) rfl rfl rfl (fun W' h => ex_move _)) ?_
    refine PlanInit.cons (ps_val (v := .pointer (some ⟨w.heap.size, 0, none⟩)) rfl rfl rfl (fun W' h => ex_field faCouple_0 rfl)) ?_
    refine PlanInit.cons (ps_val (v := .pointer (some ⟨w.heap.size, 0, none⟩)) rfl rfl rfl (fun W' h => ex_index 0 arParts rfl rfl (by decide))) ?_
    refine PlanInit.cons (ps_val (v := nv 6 [a0, a1]) rfl rfl rfl (fun W' h => ex_loadn (K := 6) (k := 0) (j := 2) (l := [a0, a1, a2, a3, a4, a5, b0, b1, b2, b3, b4, b5]) flFp2 rfl (A4.keep h.out) rfl _ rfl)) ?_
    refine PlanInit.cons (ps_val (v := .int .i64 0) rfl rfl rfl (fun W' h => ex_move _)) ?_
    refine PlanInit.cons (ps_val (v := .pointer (some ⟨w.heap.size, 36, none⟩)) rfl rfl rfl (fun W' h => ex_field faCouple_1 rfl)) ?_
    refine PlanInit.cons (ps_val (v := .pointer (some ⟨w.heap.size, 36, none⟩)) rfl rfl rfl (fun W' h => ex_index 0 arParts rfl rfl (by decide))) ?_
    refine PlanInit.cons (ps_val (v := nv 6 [b0, b1]) rfl rfl rfl (fun W' h => ex_loadn (K := 6) (k := 6) (j := 2) (l := [a0, a1, a2, a3, a4, a5, b0, b1, b2, b3, b4, b5]) flFp2 rfl (A4.keep h.out) rfl _ rfl)) ?_
    refine PlanInit.cons (ps_call (v := nv 6 [v0, v1]) rfl rfl rfl (fun W' => ex_call (vs := [nv 6 [a0, a1], nv 6 [b0, b1]]) rfl Try.call62 rfl) (fun W' h => hc _)) ?_
    exact PlanInit.one
  refine last_store (t := 26) (xs := rows 6 [0, 0]) (ys := rows 6 [v0, v1]) rfl rfl (fun W' h => N3.keep h.out) (len_rows rfl) (fun W' h => ex_storen (K := 6) (l := [0, 0]) (m := [v0, v1]) flFp2 rfl rfl (N3.keep h.out) rfl) ?_
  intro w7 w8 hb7 N8 hst8 hoth8
  refine then_n ?_
  have A9 := A4.keep hb7.out
  have A10 := N3.keep hb7.out
  have HB11 := below_then HB5 hb7.out
  have A12 := hoth8 _ _ _ (Nat.ne_of_lt N1.lt) A9
  have HB13 := hst8 _ _ HB11 HB2.size
  exact wp_ret (bodyPost_ret (ret_celln (K := 6) Try.results47 rfl N8 flFp2) rfl ⟨rfl, HB13⟩)

set_option maxRecDepth 20000 in
set_option maxHeartbeats 4000000 in
theorem couplesum_1 (a0 a1 a2 a3 a4 a5 b0 b1 b2 b3 b4 b5 v0 v1 : Nat) (hc : ∀ w, Calls Try.prog 62 #[nv 6 [a2, a3], nv 6 [b2, b3]] w (Is (nv 6 [v0, v1]) w)) (w : World) :
    Calls Try.prog 47 #[nv 6 [a0, a1, a2, a3, a4, a5, b0, b1, b2, b3, b4, b5], .int .i64 1] w (Is (nv 6 [v0, v1]) w) := by
  go_enter Try.func47, Try.ntmps47
  refine seq_lit ?_
  refine sq_new (a' := ⟨#[nv 6 [a0, a1, a2, a3, a4, a5, b0, b1, b2, b3, b4, b5], .int .i64 1, .pointer (some ⟨w.heap.size, 0, none⟩), undef, undef, undef, undef, undef, undef, undef, undef, undef, undef, undef], []⟩) (xs := rows 6 [a0, a1, a2, a3, a4, a5, b0, b1, b2, b3, b4, b5]) rfl rfl (ex_boxn (K := 6) (l := [a0, a1, a2, a3, a4, a5, b0, b1, b2, b3, b4, b5]) rfl) ?_
  intro w1 N1 hb1
  have HB2 := below_then (Below.refl w.heap.size w) hb1
  refine sq_new (a' := ⟨#[nv 6 [a0, a1, a2, a3, a4, a5, b0, b1, b2, b3, b4, b5], .int .i64 1, .pointer (some ⟨w.heap.size, 0, none⟩), undef, .pointer (some ⟨w1.heap.size, 0, none⟩), undef, undef, undef, undef, undef, undef, undef, undef, undef], []⟩) (xs := rows 6 [0, 0]) rfl rfl (ex_alloc zFp2) ?_
  intro w3 N3 hb3
  have A4 := N1.keep hb3
  have HB5 := below_then HB2 hb3
  refine seq_nil ?_
  refine wp_seq (wp_region_last (F := ⟨#[nv 6 [a0, a1, a2, a3, a4, a5, b0, b1, b2, b3, b4, b5], .int .i64 1, .pointer (some ⟨w.heap.size, 0, none⟩), undef, .pointer (some ⟨w1.heap.size, 0, none⟩), .int .i64 1, .pointer (some ⟨w.heap.size, 0, none⟩), .pointer (some ⟨w.heap.size, 12, none⟩), nv 6 [a2, a3], .int .i64 1, .pointer (some ⟨w.heap.size, 36, none⟩), .pointer (some ⟨w.heap.size, 48, none⟩), nv 6 [b2, b3], nv 6 [v0, v1]], []⟩) (S := Bel w3) [(5, .int .i64 1), (6, .pointer (some ⟨w.heap.size, 0, none⟩)), (7, .pointer (some ⟨w.heap.size, 12, none⟩)), (8, nv 6 [a2, a3]), (9, .int .i64 1), (10, .pointer (some ⟨w.heap.size, 36, none⟩)), (11, .pointer (some ⟨w.heap.size, 48, none⟩)), (12, nv 6 [b2, b3]), (13, nv 6 [v0, v1])] 9 _ (by kernel_rfl) (by kernel_rfl) (by kernel_rfl) (by kernel_rfl) rfl rfl (by kernel_rfl) rfl (by simp only [putAll, List.setIfInBounds_toArray, List.set_cons_zero, List.set_cons_succ]) (Bel.start _) ?_ ?_)
  · refine PlanInit.cons (ps_val (v := .int .i64 1) rfl rfl rfl (fun W' h => ex_move _)) ?_
    refine PlanInit.cons (ps_val (v := .pointer (some ⟨w.heap.size, 0, none⟩)) rfl rfl rfl (fun W' h => ex_field faCouple_0 rfl)) ?_
    refine PlanInit.cons (ps_val (v := .pointer (some ⟨w.heap.size, 12, none⟩)) rfl rfl rfl (fun W' h => ex_index 1 arParts rfl rfl (by decide))) ?_
    refine PlanInit.cons (ps_val (v := nv 6 [a2, a3]) rfl rfl rfl (fun W' h => ex_loadn (K := 6) (k := 2) (j := 2) (l := [a0, a1, a2, a3, a4, a5, b0, b1, b2, b3, b4, b5]) flFp2 rfl (A4.keep h.out) rfl _ rfl)) ?_
    refine PlanInit.cons (ps_val (v := .int .i64 1) rfl rfl rfl (fun W' h => ex_move _)) ?_
    refine PlanInit.cons (ps_val (v := .pointer (some ⟨w.heap.size, 36, none⟩)) rfl rfl rfl (fun W' h => ex_field faCouple_1 rfl)) ?_
    refine PlanInit.cons (ps_val (v := .pointer (some ⟨w.heap.size, 48, none⟩)) rfl rfl rfl (fun W' h => ex_index 1 arParts rfl rfl (by decide))) ?_
    refine PlanInit.cons (ps_val (v := nv 6 [b2, b3]) rfl rfl rfl (fun W' h => ex_loadn (K := 6) (k := 8) (j := 2) (l := [a0, a1, a2, a3, a4, a5, b0, b1, b2, b3, b4, b5]) flFp2 rfl (A4.keep h.out) rfl _ rfl)) ?_
    refine PlanInit.cons (ps_call (v := nv 6 [v0, v1]) rfl rfl rfl (fun W' => ex_call (vs := [nv 6 [a2, a3], nv 6 [b2, b3]]) rfl Try.call62 rfl) (fun W' h => hc _)) ?_
    exact PlanInit.one
  refine last_store (t := 26) (xs := rows 6 [0, 0]) (ys := rows 6 [v0, v1]) rfl rfl (fun W' h => N3.keep h.out) (len_rows rfl) (fun W' h => ex_storen (K := 6) (l := [0, 0]) (m := [v0, v1]) flFp2 rfl rfl (N3.keep h.out) rfl) ?_
  intro w7 w8 hb7 N8 hst8 hoth8
  refine then_n ?_
  have A9 := A4.keep hb7.out
  have A10 := N3.keep hb7.out
  have HB11 := below_then HB5 hb7.out
  have A12 := hoth8 _ _ _ (Nat.ne_of_lt N1.lt) A9
  have HB13 := hst8 _ _ HB11 HB2.size
  exact wp_ret (bodyPost_ret (ret_celln (K := 6) Try.results47 rfl N8 flFp2) rfl ⟨rfl, HB13⟩)

set_option maxRecDepth 20000 in
set_option maxHeartbeats 4000000 in
theorem couplesum_2 (a0 a1 a2 a3 a4 a5 b0 b1 b2 b3 b4 b5 v0 v1 : Nat) (hc : ∀ w, Calls Try.prog 62 #[nv 6 [a4, a5], nv 6 [b4, b5]] w (Is (nv 6 [v0, v1]) w)) (w : World) :
    Calls Try.prog 47 #[nv 6 [a0, a1, a2, a3, a4, a5, b0, b1, b2, b3, b4, b5], .int .i64 2] w (Is (nv 6 [v0, v1]) w) := by
  go_enter Try.func47, Try.ntmps47
  refine seq_lit ?_
  refine sq_new (a' := ⟨#[nv 6 [a0, a1, a2, a3, a4, a5, b0, b1, b2, b3, b4, b5], .int .i64 2, .pointer (some ⟨w.heap.size, 0, none⟩), undef, undef, undef, undef, undef, undef, undef, undef, undef, undef, undef], []⟩) (xs := rows 6 [a0, a1, a2, a3, a4, a5, b0, b1, b2, b3, b4, b5]) rfl rfl (ex_boxn (K := 6) (l := [a0, a1, a2, a3, a4, a5, b0, b1, b2, b3, b4, b5]) rfl) ?_
  intro w1 N1 hb1
  have HB2 := below_then (Below.refl w.heap.size w) hb1
  refine sq_new (a' := ⟨#[nv 6 [a0, a1, a2, a3, a4, a5, b0, b1, b2, b3, b4, b5], .int .i64 2, .pointer (some ⟨w.heap.size, 0, none⟩), undef, .pointer (some ⟨w1.heap.size, 0, none⟩), undef, undef, undef, undef, undef, undef, undef, undef, undef], []⟩) (xs := rows 6 [0, 0]) rfl rfl (ex_alloc zFp2) ?_
  intro w3 N3 hb3
  have A4 := N1.keep hb3
  have HB5 := below_then HB2 hb3
  refine seq_nil ?_
  refine wp_seq (wp_region_last (F := ⟨#[nv 6 [a0, a1, a2, a3, a4, a5, b0, b1, b2, b3, b4, b5], .int .i64 2, .pointer (some ⟨w.heap.size, 0, none⟩), undef, .pointer (some ⟨w1.heap.size, 0, none⟩), .int .i64 2, .pointer (some ⟨w.heap.size, 0, none⟩), .pointer (some ⟨w.heap.size, 24, none⟩), nv 6 [a4, a5], .int .i64 2, .pointer (some ⟨w.heap.size, 36, none⟩), .pointer (some ⟨w.heap.size, 60, none⟩), nv 6 [b4, b5], nv 6 [v0, v1]], []⟩) (S := Bel w3) [(5, .int .i64 2), (6, .pointer (some ⟨w.heap.size, 0, none⟩)), (7, .pointer (some ⟨w.heap.size, 24, none⟩)), (8, nv 6 [a4, a5]), (9, .int .i64 2), (10, .pointer (some ⟨w.heap.size, 36, none⟩)), (11, .pointer (some ⟨w.heap.size, 60, none⟩)), (12, nv 6 [b4, b5]), (13, nv 6 [v0, v1])] 9 _ (by kernel_rfl) (by kernel_rfl) (by kernel_rfl) (by kernel_rfl) rfl rfl (by kernel_rfl) rfl (by simp only [putAll, List.setIfInBounds_toArray, List.set_cons_zero, List.set_cons_succ]) (Bel.start _) ?_ ?_)
  · refine PlanInit.cons (ps_val (v := .int .i64 2) rfl rfl rfl (fun W' h => ex_move _)) ?_
    refine PlanInit.cons (ps_val (v := .pointer (some ⟨w.heap.size, 0, none⟩)) rfl rfl rfl (fun W' h => ex_field faCouple_0 rfl)) ?_
    refine PlanInit.cons (ps_val (v := .pointer (some ⟨w.heap.size, 24, none⟩)) rfl rfl rfl (fun W' h => ex_index 2 arParts rfl rfl (by decide))) ?_
    refine PlanInit.cons (ps_val (v := nv 6 [a4, a5]) rfl rfl rfl (fun W' h => ex_loadn (K := 6) (k := 4) (j := 2) (l := [a0, a1, a2, a3, a4, a5, b0, b1, b2, b3, b4, b5]) flFp2 rfl (A4.keep h.out) rfl _ rfl)) ?_
    refine PlanInit.cons (ps_val (v := .int .i64 2) rfl rfl rfl (fun W' h => ex_move _)) ?_
    refine PlanInit.cons (ps_val (v := .pointer (some ⟨w.heap.size, 36, none⟩)) rfl rfl rfl (fun W' h => ex_field faCouple_1 rfl)) ?_
    refine PlanInit.cons (ps_val (v := .pointer (some ⟨w.heap.size, 60, none⟩)) rfl rfl rfl (fun W' h => ex_index 2 arParts rfl rfl (by decide))) ?_
    refine PlanInit.cons (ps_val (v := nv 6 [b4, b5]) rfl rfl rfl (fun W' h => ex_loadn (K := 6) (k := 10) (j := 2) (l := [a0, a1, a2, a3, a4, a5, b0, b1, b2, b3, b4, b5]) flFp2 rfl (A4.keep h.out) rfl _ rfl)) ?_
    refine PlanInit.cons (ps_call (v := nv 6 [v0, v1]) rfl rfl rfl (fun W' => ex_call (vs := [nv 6 [a4, a5], nv 6 [b4, b5]]) rfl Try.call62 rfl) (fun W' h => hc _)) ?_
    exact PlanInit.one
  refine last_store (t := 26) (xs := rows 6 [0, 0]) (ys := rows 6 [v0, v1]) rfl rfl (fun W' h => N3.keep h.out) (len_rows rfl) (fun W' h => ex_storen (K := 6) (l := [0, 0]) (m := [v0, v1]) flFp2 rfl rfl (N3.keep h.out) rfl) ?_
  intro w7 w8 hb7 N8 hst8 hoth8
  refine then_n ?_
  have A9 := A4.keep hb7.out
  have A10 := N3.keep hb7.out
  have HB11 := below_then HB5 hb7.out
  have A12 := hoth8 _ _ _ (Nat.ne_of_lt N1.lt) A9
  have HB13 := hst8 _ _ HB11 HB2.size
  exact wp_ret (bodyPost_ret (ret_celln (K := 6) Try.results47 rfl N8 flFp2) rfl ⟨rfl, HB13⟩)

set_option maxRecDepth 20000 in
set_option maxHeartbeats 4000000 in
theorem coupledifference_0 (a0 a1 a2 a3 a4 a5 b0 b1 b2 b3 b4 b5 v0 v1 : Nat) (hc : ∀ w, Calls Try.prog 67 #[nv 6 [a0, a1], nv 6 [b0, b1]] w (Is (nv 6 [v0, v1]) w)) (w : World) :
    Calls Try.prog 53 #[nv 6 [a0, a1, a2, a3, a4, a5, b0, b1, b2, b3, b4, b5], .int .i64 0] w (Is (nv 6 [v0, v1]) w) := by
  go_enter Try.func53, Try.ntmps53
  refine seq_lit ?_
  refine sq_new (a' := ⟨#[nv 6 [a0, a1, a2, a3, a4, a5, b0, b1, b2, b3, b4, b5], .int .i64 0, .pointer (some ⟨w.heap.size, 0, none⟩), undef, undef, undef, undef, undef, undef, undef, undef, undef, undef, undef], []⟩) (xs := rows 6 [a0, a1, a2, a3, a4, a5, b0, b1, b2, b3, b4, b5]) rfl rfl (ex_boxn (K := 6) (l := [a0, a1, a2, a3, a4, a5, b0, b1, b2, b3, b4, b5]) rfl) ?_
  intro w1 N1 hb1
  have HB2 := below_then (Below.refl w.heap.size w) hb1
  refine sq_new (a' := ⟨#[nv 6 [a0, a1, a2, a3, a4, a5, b0, b1, b2, b3, b4, b5], .int .i64 0, .pointer (some ⟨w.heap.size, 0, none⟩), undef, .pointer (some ⟨w1.heap.size, 0, none⟩), undef, undef, undef, undef, undef, undef, undef, undef, undef], []⟩) (xs := rows 6 [0, 0]) rfl rfl (ex_alloc zFp2) ?_
  intro w3 N3 hb3
  have A4 := N1.keep hb3
  have HB5 := below_then HB2 hb3
  refine seq_nil ?_
  refine wp_seq (wp_region_last (F := ⟨#[nv 6 [a0, a1, a2, a3, a4, a5, b0, b1, b2, b3, b4, b5], .int .i64 0, .pointer (some ⟨w.heap.size, 0, none⟩), undef, .pointer (some ⟨w1.heap.size, 0, none⟩), .int .i64 0, .pointer (some ⟨w.heap.size, 0, none⟩), .pointer (some ⟨w.heap.size, 0, none⟩), nv 6 [a0, a1], .int .i64 0, .pointer (some ⟨w.heap.size, 36, none⟩), .pointer (some ⟨w.heap.size, 36, none⟩), nv 6 [b0, b1], nv 6 [v0, v1]], []⟩) (S := Bel w3) [(5, .int .i64 0), (6, .pointer (some ⟨w.heap.size, 0, none⟩)), (7, .pointer (some ⟨w.heap.size, 0, none⟩)), (8, nv 6 [a0, a1]), (9, .int .i64 0), (10, .pointer (some ⟨w.heap.size, 36, none⟩)), (11, .pointer (some ⟨w.heap.size, 36, none⟩)), (12, nv 6 [b0, b1]), (13, nv 6 [v0, v1])] 9 _ (by kernel_rfl) (by kernel_rfl) (by kernel_rfl) (by kernel_rfl) rfl rfl (by kernel_rfl) rfl (by simp only [putAll, List.setIfInBounds_toArray, List.set_cons_zero, List.set_cons_succ]) (Bel.start _) ?_ ?_)
  · refine PlanInit.cons (ps_val (v := .int .i64 0) rfl rfl rfl (fun W' h => ex_move _)) ?_
    refine PlanInit.cons (ps_val (v := .pointer (some ⟨w.heap.size, 0, none⟩)) rfl rfl rfl (fun W' h => ex_field faCouple_0 rfl)) ?_
    refine PlanInit.cons (ps_val (v := .pointer (some ⟨w.heap.size, 0, none⟩)) rfl rfl rfl (fun W' h => ex_index 0 arParts rfl rfl (by decide))) ?_
    refine PlanInit.cons (ps_val (v := nv 6 [a0, a1]) rfl rfl rfl (fun W' h => ex_loadn (K := 6) (k := 0) (j := 2) (l := [a0, a1, a2, a3, a4, a5, b0, b1, b2, b3, b4, b5]) flFp2 rfl (A4.keep h.out) rfl _ rfl)) ?_
    refine PlanInit.cons (ps_val (v := .int .i64 0) rfl rfl rfl (fun W' h => ex_move _)) ?_
    refine PlanInit.cons (ps_val (v := .pointer (some ⟨w.heap.size, 36, none⟩)) rfl rfl rfl (fun W' h => ex_field faCouple_1 rfl)) ?_
    refine PlanInit.cons (ps_val (v := .pointer (some ⟨w.heap.size, 36, none⟩)) rfl rfl rfl (fun W' h => ex_index 0 arParts rfl rfl (by decide))) ?_
    refine PlanInit.cons (ps_val (v := nv 6 [b0, b1]) rfl rfl rfl (fun W' h => ex_loadn (K := 6) (k := 6) (j := 2) (l := [a0, a1, a2, a3, a4, a5, b0, b1, b2, b3, b4, b5]) flFp2 rfl (A4.keep h.out) rfl _ rfl)) ?_
    refine PlanInit.cons (ps_call (v := nv 6 [v0, v1]) rfl rfl rfl (fun W' => ex_call (vs := [nv 6 [a0, a1], nv 6 [b0, b1]]) rfl Try.call67 rfl) (fun W' h => hc _)) ?_
    exact PlanInit.one
  refine last_store (t := 26) (xs := rows 6 [0, 0]) (ys := rows 6 [v0, v1]) rfl rfl (fun W' h => N3.keep h.out) (len_rows rfl) (fun W' h => ex_storen (K := 6) (l := [0, 0]) (m := [v0, v1]) flFp2 rfl rfl (N3.keep h.out) rfl) ?_
  intro w7 w8 hb7 N8 hst8 hoth8
  refine then_n ?_
  have A9 := A4.keep hb7.out
  have A10 := N3.keep hb7.out
  have HB11 := below_then HB5 hb7.out
  have A12 := hoth8 _ _ _ (Nat.ne_of_lt N1.lt) A9
  have HB13 := hst8 _ _ HB11 HB2.size
  exact wp_ret (bodyPost_ret (ret_celln (K := 6) Try.results53 rfl N8 flFp2) rfl ⟨rfl, HB13⟩)

set_option maxRecDepth 20000 in
set_option maxHeartbeats 4000000 in
theorem coupledifference_1 (a0 a1 a2 a3 a4 a5 b0 b1 b2 b3 b4 b5 v0 v1 : Nat) (hc : ∀ w, Calls Try.prog 67 #[nv 6 [a2, a3], nv 6 [b2, b3]] w (Is (nv 6 [v0, v1]) w)) (w : World) :
    Calls Try.prog 53 #[nv 6 [a0, a1, a2, a3, a4, a5, b0, b1, b2, b3, b4, b5], .int .i64 1] w (Is (nv 6 [v0, v1]) w) := by
  go_enter Try.func53, Try.ntmps53
  refine seq_lit ?_
  refine sq_new (a' := ⟨#[nv 6 [a0, a1, a2, a3, a4, a5, b0, b1, b2, b3, b4, b5], .int .i64 1, .pointer (some ⟨w.heap.size, 0, none⟩), undef, undef, undef, undef, undef, undef, undef, undef, undef, undef, undef], []⟩) (xs := rows 6 [a0, a1, a2, a3, a4, a5, b0, b1, b2, b3, b4, b5]) rfl rfl (ex_boxn (K := 6) (l := [a0, a1, a2, a3, a4, a5, b0, b1, b2, b3, b4, b5]) rfl) ?_
  intro w1 N1 hb1
  have HB2 := below_then (Below.refl w.heap.size w) hb1
  refine sq_new (a' := ⟨#[nv 6 [a0, a1, a2, a3, a4, a5, b0, b1, b2, b3, b4, b5], .int .i64 1, .pointer (some ⟨w.heap.size, 0, none⟩), undef, .pointer (some ⟨w1.heap.size, 0, none⟩), undef, undef, undef, undef, undef, undef, undef, undef, undef], []⟩) (xs := rows 6 [0, 0]) rfl rfl (ex_alloc zFp2) ?_
  intro w3 N3 hb3
  have A4 := N1.keep hb3
  have HB5 := below_then HB2 hb3
  refine seq_nil ?_
  refine wp_seq (wp_region_last (F := ⟨#[nv 6 [a0, a1, a2, a3, a4, a5, b0, b1, b2, b3, b4, b5], .int .i64 1, .pointer (some ⟨w.heap.size, 0, none⟩), undef, .pointer (some ⟨w1.heap.size, 0, none⟩), .int .i64 1, .pointer (some ⟨w.heap.size, 0, none⟩), .pointer (some ⟨w.heap.size, 12, none⟩), nv 6 [a2, a3], .int .i64 1, .pointer (some ⟨w.heap.size, 36, none⟩), .pointer (some ⟨w.heap.size, 48, none⟩), nv 6 [b2, b3], nv 6 [v0, v1]], []⟩) (S := Bel w3) [(5, .int .i64 1), (6, .pointer (some ⟨w.heap.size, 0, none⟩)), (7, .pointer (some ⟨w.heap.size, 12, none⟩)), (8, nv 6 [a2, a3]), (9, .int .i64 1), (10, .pointer (some ⟨w.heap.size, 36, none⟩)), (11, .pointer (some ⟨w.heap.size, 48, none⟩)), (12, nv 6 [b2, b3]), (13, nv 6 [v0, v1])] 9 _ (by kernel_rfl) (by kernel_rfl) (by kernel_rfl) (by kernel_rfl) rfl rfl (by kernel_rfl) rfl (by simp only [putAll, List.setIfInBounds_toArray, List.set_cons_zero, List.set_cons_succ]) (Bel.start _) ?_ ?_)
  · refine PlanInit.cons (ps_val (v := .int .i64 1) rfl rfl rfl (fun W' h => ex_move _)) ?_
    refine PlanInit.cons (ps_val (v := .pointer (some ⟨w.heap.size, 0, none⟩)) rfl rfl rfl (fun W' h => ex_field faCouple_0 rfl)) ?_
    refine PlanInit.cons (ps_val (v := .pointer (some ⟨w.heap.size, 12, none⟩)) rfl rfl rfl (fun W' h => ex_index 1 arParts rfl rfl (by decide))) ?_
    refine PlanInit.cons (ps_val (v := nv 6 [a2, a3]) rfl rfl rfl (fun W' h => ex_loadn (K := 6) (k := 2) (j := 2) (l := [a0, a1, a2, a3, a4, a5, b0, b1, b2, b3, b4, b5]) flFp2 rfl (A4.keep h.out) rfl _ rfl)) ?_
    refine PlanInit.cons (ps_val (v := .int .i64 1) rfl rfl rfl (fun W' h => ex_move _)) ?_
    refine PlanInit.cons (ps_val (v := .pointer (some ⟨w.heap.size, 36, none⟩)) rfl rfl rfl (fun W' h => ex_field faCouple_1 rfl)) ?_
    refine PlanInit.cons (ps_val (v := .pointer (some ⟨w.heap.size, 48, none⟩)) rfl rfl rfl (fun W' h => ex_index 1 arParts rfl rfl (by decide))) ?_
    refine PlanInit.cons (ps_val (v := nv 6 [b2, b3]) rfl rfl rfl (fun W' h => ex_loadn (K := 6) (k := 8) (j := 2) (l := [a0, a1, a2, a3, a4, a5, b0, b1, b2, b3, b4, b5]) flFp2 rfl (A4.keep h.out) rfl _ rfl)) ?_
    refine PlanInit.cons (ps_call (v := nv 6 [v0, v1]) rfl rfl rfl (fun W' => ex_call (vs := [nv 6 [a2, a3], nv 6 [b2, b3]]) rfl Try.call67 rfl) (fun W' h => hc _)) ?_
    exact PlanInit.one
  refine last_store (t := 26) (xs := rows 6 [0, 0]) (ys := rows 6 [v0, v1]) rfl rfl (fun W' h => N3.keep h.out) (len_rows rfl) (fun W' h => ex_storen (K := 6) (l := [0, 0]) (m := [v0, v1]) flFp2 rfl rfl (N3.keep h.out) rfl) ?_
  intro w7 w8 hb7 N8 hst8 hoth8
  refine then_n ?_
  have A9 := A4.keep hb7.out
  have A10 := N3.keep hb7.out
  have HB11 := below_then HB5 hb7.out
  have A12 := hoth8 _ _ _ (Nat.ne_of_lt N1.lt) A9
  have HB13 := hst8 _ _ HB11 HB2.size
  exact wp_ret (bodyPost_ret (ret_celln (K := 6) Try.results53 rfl N8 flFp2) rfl ⟨rfl, HB13⟩)

set_option maxRecDepth 20000 in
set_option maxHeartbeats 4000000 in
theorem coupledifference_2 (a0 a1 a2 a3 a4 a5 b0 b1 b2 b3 b4 b5 v0 v1 : Nat) (hc : ∀ w, Calls Try.prog 67 #[nv 6 [a4, a5], nv 6 [b4, b5]] w (Is (nv 6 [v0, v1]) w)) (w : World) :
    Calls Try.prog 53 #[nv 6 [a0, a1, a2, a3, a4, a5, b0, b1, b2, b3, b4, b5], .int .i64 2] w (Is (nv 6 [v0, v1]) w) := by
  go_enter Try.func53, Try.ntmps53
  refine seq_lit ?_
  refine sq_new (a' := ⟨#[nv 6 [a0, a1, a2, a3, a4, a5, b0, b1, b2, b3, b4, b5], .int .i64 2, .pointer (some ⟨w.heap.size, 0, none⟩), undef, undef, undef, undef, undef, undef, undef, undef, undef, undef, undef], []⟩) (xs := rows 6 [a0, a1, a2, a3, a4, a5, b0, b1, b2, b3, b4, b5]) rfl rfl (ex_boxn (K := 6) (l := [a0, a1, a2, a3, a4, a5, b0, b1, b2, b3, b4, b5]) rfl) ?_
  intro w1 N1 hb1
  have HB2 := below_then (Below.refl w.heap.size w) hb1
  refine sq_new (a' := ⟨#[nv 6 [a0, a1, a2, a3, a4, a5, b0, b1, b2, b3, b4, b5], .int .i64 2, .pointer (some ⟨w.heap.size, 0, none⟩), undef, .pointer (some ⟨w1.heap.size, 0, none⟩), undef, undef, undef, undef, undef, undef, undef, undef, undef], []⟩) (xs := rows 6 [0, 0]) rfl rfl (ex_alloc zFp2) ?_
  intro w3 N3 hb3
  have A4 := N1.keep hb3
  have HB5 := below_then HB2 hb3
  refine seq_nil ?_
  refine wp_seq (wp_region_last (F := ⟨#[nv 6 [a0, a1, a2, a3, a4, a5, b0, b1, b2, b3, b4, b5], .int .i64 2, .pointer (some ⟨w.heap.size, 0, none⟩), undef, .pointer (some ⟨w1.heap.size, 0, none⟩), .int .i64 2, .pointer (some ⟨w.heap.size, 0, none⟩), .pointer (some ⟨w.heap.size, 24, none⟩), nv 6 [a4, a5], .int .i64 2, .pointer (some ⟨w.heap.size, 36, none⟩), .pointer (some ⟨w.heap.size, 60, none⟩), nv 6 [b4, b5], nv 6 [v0, v1]], []⟩) (S := Bel w3) [(5, .int .i64 2), (6, .pointer (some ⟨w.heap.size, 0, none⟩)), (7, .pointer (some ⟨w.heap.size, 24, none⟩)), (8, nv 6 [a4, a5]), (9, .int .i64 2), (10, .pointer (some ⟨w.heap.size, 36, none⟩)), (11, .pointer (some ⟨w.heap.size, 60, none⟩)), (12, nv 6 [b4, b5]), (13, nv 6 [v0, v1])] 9 _ (by kernel_rfl) (by kernel_rfl) (by kernel_rfl) (by kernel_rfl) rfl rfl (by kernel_rfl) rfl (by simp only [putAll, List.setIfInBounds_toArray, List.set_cons_zero, List.set_cons_succ]) (Bel.start _) ?_ ?_)
  · refine PlanInit.cons (ps_val (v := .int .i64 2) rfl rfl rfl (fun W' h => ex_move _)) ?_
    refine PlanInit.cons (ps_val (v := .pointer (some ⟨w.heap.size, 0, none⟩)) rfl rfl rfl (fun W' h => ex_field faCouple_0 rfl)) ?_
    refine PlanInit.cons (ps_val (v := .pointer (some ⟨w.heap.size, 24, none⟩)) rfl rfl rfl (fun W' h => ex_index 2 arParts rfl rfl (by decide))) ?_
    refine PlanInit.cons (ps_val (v := nv 6 [a4, a5]) rfl rfl rfl (fun W' h => ex_loadn (K := 6) (k := 4) (j := 2) (l := [a0, a1, a2, a3, a4, a5, b0, b1, b2, b3, b4, b5]) flFp2 rfl (A4.keep h.out) rfl _ rfl)) ?_
    refine PlanInit.cons (ps_val (v := .int .i64 2) rfl rfl rfl (fun W' h => ex_move _)) ?_
    refine PlanInit.cons (ps_val (v := .pointer (some ⟨w.heap.size, 36, none⟩)) rfl rfl rfl (fun W' h => ex_field faCouple_1 rfl)) ?_
    refine PlanInit.cons (ps_val (v := .pointer (some ⟨w.heap.size, 60, none⟩)) rfl rfl rfl (fun W' h => ex_index 2 arParts rfl rfl (by decide))) ?_
    refine PlanInit.cons (ps_val (v := nv 6 [b4, b5]) rfl rfl rfl (fun W' h => ex_loadn (K := 6) (k := 10) (j := 2) (l := [a0, a1, a2, a3, a4, a5, b0, b1, b2, b3, b4, b5]) flFp2 rfl (A4.keep h.out) rfl _ rfl)) ?_
    refine PlanInit.cons (ps_call (v := nv 6 [v0, v1]) rfl rfl rfl (fun W' => ex_call (vs := [nv 6 [a4, a5], nv 6 [b4, b5]]) rfl Try.call67 rfl) (fun W' h => hc _)) ?_
    exact PlanInit.one
  refine last_store (t := 26) (xs := rows 6 [0, 0]) (ys := rows 6 [v0, v1]) rfl rfl (fun W' h => N3.keep h.out) (len_rows rfl) (fun W' h => ex_storen (K := 6) (l := [0, 0]) (m := [v0, v1]) flFp2 rfl rfl (N3.keep h.out) rfl) ?_
  intro w7 w8 hb7 N8 hst8 hoth8
  refine then_n ?_
  have A9 := A4.keep hb7.out
  have A10 := N3.keep hb7.out
  have HB11 := below_then HB5 hb7.out
  have A12 := hoth8 _ _ _ (Nat.ne_of_lt N1.lt) A9
  have HB13 := hst8 _ _ HB11 HB2.size
  exact wp_ret (bodyPost_ret (ret_celln (K := 6) Try.results53 rfl N8 flFp2) rfl ⟨rfl, HB13⟩)

set_option maxRecDepth 20000 in
set_option maxHeartbeats 4000000 in
theorem coupleproduct_0 (a0 a1 a2 a3 a4 a5 b0 b1 b2 b3 b4 b5 v0 v1 : Nat) (hc : ∀ w, Calls Try.prog 69 #[nv 6 [a0, a1], nv 6 [b0, b1]] w (Is (nv 6 [v0, v1]) w)) (w : World) :
    Calls Try.prog 66 #[nv 6 [a0, a1, a2, a3, a4, a5, b0, b1, b2, b3, b4, b5], .int .i64 0] w (Is (nv 6 [v0, v1]) w) := by
  go_enter Try.func66, Try.ntmps66
  refine seq_lit ?_
  refine sq_new (a' := ⟨#[nv 6 [a0, a1, a2, a3, a4, a5, b0, b1, b2, b3, b4, b5], .int .i64 0, .pointer (some ⟨w.heap.size, 0, none⟩), undef, undef, undef, undef, undef, undef, undef, undef, undef, undef, undef], []⟩) (xs := rows 6 [a0, a1, a2, a3, a4, a5, b0, b1, b2, b3, b4, b5]) rfl rfl (ex_boxn (K := 6) (l := [a0, a1, a2, a3, a4, a5, b0, b1, b2, b3, b4, b5]) rfl) ?_
  intro w1 N1 hb1
  have HB2 := below_then (Below.refl w.heap.size w) hb1
  refine sq_new (a' := ⟨#[nv 6 [a0, a1, a2, a3, a4, a5, b0, b1, b2, b3, b4, b5], .int .i64 0, .pointer (some ⟨w.heap.size, 0, none⟩), undef, .pointer (some ⟨w1.heap.size, 0, none⟩), undef, undef, undef, undef, undef, undef, undef, undef, undef], []⟩) (xs := rows 6 [0, 0]) rfl rfl (ex_alloc zFp2) ?_
  intro w3 N3 hb3
  have A4 := N1.keep hb3
  have HB5 := below_then HB2 hb3
  refine seq_nil ?_
  refine wp_seq (wp_region_last (F := ⟨#[nv 6 [a0, a1, a2, a3, a4, a5, b0, b1, b2, b3, b4, b5], .int .i64 0, .pointer (some ⟨w.heap.size, 0, none⟩), undef, .pointer (some ⟨w1.heap.size, 0, none⟩), .int .i64 0, .pointer (some ⟨w.heap.size, 0, none⟩), .pointer (some ⟨w.heap.size, 0, none⟩), nv 6 [a0, a1], .int .i64 0, .pointer (some ⟨w.heap.size, 36, none⟩), .pointer (some ⟨w.heap.size, 36, none⟩), nv 6 [b0, b1], nv 6 [v0, v1]], []⟩) (S := Bel w3) [(5, .int .i64 0), (6, .pointer (some ⟨w.heap.size, 0, none⟩)), (7, .pointer (some ⟨w.heap.size, 0, none⟩)), (8, nv 6 [a0, a1]), (9, .int .i64 0), (10, .pointer (some ⟨w.heap.size, 36, none⟩)), (11, .pointer (some ⟨w.heap.size, 36, none⟩)), (12, nv 6 [b0, b1]), (13, nv 6 [v0, v1])] 9 _ (by kernel_rfl) (by kernel_rfl) (by kernel_rfl) (by kernel_rfl) rfl rfl (by kernel_rfl) rfl (by simp only [putAll, List.setIfInBounds_toArray, List.set_cons_zero, List.set_cons_succ]) (Bel.start _) ?_ ?_)
  · refine PlanInit.cons (ps_val (v := .int .i64 0) rfl rfl rfl (fun W' h => ex_move _)) ?_
    refine PlanInit.cons (ps_val (v := .pointer (some ⟨w.heap.size, 0, none⟩)) rfl rfl rfl (fun W' h => ex_field faCouple_0 rfl)) ?_
    refine PlanInit.cons (ps_val (v := .pointer (some ⟨w.heap.size, 0, none⟩)) rfl rfl rfl (fun W' h => ex_index 0 arParts rfl rfl (by decide))) ?_
    refine PlanInit.cons (ps_val (v := nv 6 [a0, a1]) rfl rfl rfl (fun W' h => ex_loadn (K := 6) (k := 0) (j := 2) (l := [a0, a1, a2, a3, a4, a5, b0, b1, b2, b3, b4, b5]) flFp2 rfl (A4.keep h.out) rfl _ rfl)) ?_
    refine PlanInit.cons (ps_val (v := .int .i64 0) rfl rfl rfl (fun W' h => ex_move _)) ?_
    refine PlanInit.cons (ps_val (v := .pointer (some ⟨w.heap.size, 36, none⟩)) rfl rfl rfl (fun W' h => ex_field faCouple_1 rfl)) ?_
    refine PlanInit.cons (ps_val (v := .pointer (some ⟨w.heap.size, 36, none⟩)) rfl rfl rfl (fun W' h => ex_index 0 arParts rfl rfl (by decide))) ?_
    refine PlanInit.cons (ps_val (v := nv 6 [b0, b1]) rfl rfl rfl (fun W' h => ex_loadn (K := 6) (k := 6) (j := 2) (l := [a0, a1, a2, a3, a4, a5, b0, b1, b2, b3, b4, b5]) flFp2 rfl (A4.keep h.out) rfl _ rfl)) ?_
    refine PlanInit.cons (ps_call (v := nv 6 [v0, v1]) rfl rfl rfl (fun W' => ex_call (vs := [nv 6 [a0, a1], nv 6 [b0, b1]]) rfl Try.call69 rfl) (fun W' h => hc _)) ?_
    exact PlanInit.one
  refine last_store (t := 26) (xs := rows 6 [0, 0]) (ys := rows 6 [v0, v1]) rfl rfl (fun W' h => N3.keep h.out) (len_rows rfl) (fun W' h => ex_storen (K := 6) (l := [0, 0]) (m := [v0, v1]) flFp2 rfl rfl (N3.keep h.out) rfl) ?_
  intro w7 w8 hb7 N8 hst8 hoth8
  refine then_n ?_
  have A9 := A4.keep hb7.out
  have A10 := N3.keep hb7.out
  have HB11 := below_then HB5 hb7.out
  have A12 := hoth8 _ _ _ (Nat.ne_of_lt N1.lt) A9
  have HB13 := hst8 _ _ HB11 HB2.size
  exact wp_ret (bodyPost_ret (ret_celln (K := 6) Try.results66 rfl N8 flFp2) rfl ⟨rfl, HB13⟩)

set_option maxRecDepth 20000 in
set_option maxHeartbeats 4000000 in
theorem coupleproduct_1 (a0 a1 a2 a3 a4 a5 b0 b1 b2 b3 b4 b5 v0 v1 : Nat) (hc : ∀ w, Calls Try.prog 69 #[nv 6 [a2, a3], nv 6 [b2, b3]] w (Is (nv 6 [v0, v1]) w)) (w : World) :
    Calls Try.prog 66 #[nv 6 [a0, a1, a2, a3, a4, a5, b0, b1, b2, b3, b4, b5], .int .i64 1] w (Is (nv 6 [v0, v1]) w) := by
  go_enter Try.func66, Try.ntmps66
  refine seq_lit ?_
  refine sq_new (a' := ⟨#[nv 6 [a0, a1, a2, a3, a4, a5, b0, b1, b2, b3, b4, b5], .int .i64 1, .pointer (some ⟨w.heap.size, 0, none⟩), undef, undef, undef, undef, undef, undef, undef, undef, undef, undef, undef], []⟩) (xs := rows 6 [a0, a1, a2, a3, a4, a5, b0, b1, b2, b3, b4, b5]) rfl rfl (ex_boxn (K := 6) (l := [a0, a1, a2, a3, a4, a5, b0, b1, b2, b3, b4, b5]) rfl) ?_
  intro w1 N1 hb1
  have HB2 := below_then (Below.refl w.heap.size w) hb1
  refine sq_new (a' := ⟨#[nv 6 [a0, a1, a2, a3, a4, a5, b0, b1, b2, b3, b4, b5], .int .i64 1, .pointer (some ⟨w.heap.size, 0, none⟩), undef, .pointer (some ⟨w1.heap.size, 0, none⟩), undef, undef, undef, undef, undef, undef, undef, undef, undef], []⟩) (xs := rows 6 [0, 0]) rfl rfl (ex_alloc zFp2) ?_
  intro w3 N3 hb3
  have A4 := N1.keep hb3
  have HB5 := below_then HB2 hb3
  refine seq_nil ?_
  refine wp_seq (wp_region_last (F := ⟨#[nv 6 [a0, a1, a2, a3, a4, a5, b0, b1, b2, b3, b4, b5], .int .i64 1, .pointer (some ⟨w.heap.size, 0, none⟩), undef, .pointer (some ⟨w1.heap.size, 0, none⟩), .int .i64 1, .pointer (some ⟨w.heap.size, 0, none⟩), .pointer (some ⟨w.heap.size, 12, none⟩), nv 6 [a2, a3], .int .i64 1, .pointer (some ⟨w.heap.size, 36, none⟩), .pointer (some ⟨w.heap.size, 48, none⟩), nv 6 [b2, b3], nv 6 [v0, v1]], []⟩) (S := Bel w3) [(5, .int .i64 1), (6, .pointer (some ⟨w.heap.size, 0, none⟩)), (7, .pointer (some ⟨w.heap.size, 12, none⟩)), (8, nv 6 [a2, a3]), (9, .int .i64 1), (10, .pointer (some ⟨w.heap.size, 36, none⟩)), (11, .pointer (some ⟨w.heap.size, 48, none⟩)), (12, nv 6 [b2, b3]), (13, nv 6 [v0, v1])] 9 _ (by kernel_rfl) (by kernel_rfl) (by kernel_rfl) (by kernel_rfl) rfl rfl (by kernel_rfl) rfl (by simp only [putAll, List.setIfInBounds_toArray, List.set_cons_zero, List.set_cons_succ]) (Bel.start _) ?_ ?_)
  · refine PlanInit.cons (ps_val (v := .int .i64 1) rfl rfl rfl (fun W' h => ex_move _)) ?_
    refine PlanInit.cons (ps_val (v := .pointer (some ⟨w.heap.size, 0, none⟩)) rfl rfl rfl (fun W' h => ex_field faCouple_0 rfl)) ?_
    refine PlanInit.cons (ps_val (v := .pointer (some ⟨w.heap.size, 12, none⟩)) rfl rfl rfl (fun W' h => ex_index 1 arParts rfl rfl (by decide))) ?_
    refine PlanInit.cons (ps_val (v := nv 6 [a2, a3]) rfl rfl rfl (fun W' h => ex_loadn (K := 6) (k := 2) (j := 2) (l := [a0, a1, a2, a3, a4, a5, b0, b1, b2, b3, b4, b5]) flFp2 rfl (A4.keep h.out) rfl _ rfl)) ?_
    refine PlanInit.cons (ps_val (v := .int .i64 1) rfl rfl rfl (fun W' h => ex_move _)) ?_
    refine PlanInit.cons (ps_val (v := .pointer (some ⟨w.heap.size, 36, none⟩)) rfl rfl rfl (fun W' h => ex_field faCouple_1 rfl)) ?_
    refine PlanInit.cons (ps_val (v := .pointer (some ⟨w.heap.size, 48, none⟩)) rfl rfl rfl (fun W' h => ex_index 1 arParts rfl rfl (by decide))) ?_
    refine PlanInit.cons (ps_val (v := nv 6 [b2, b3]) rfl rfl rfl (fun W' h => ex_loadn (K := 6) (k := 8) (j := 2) (l := [a0, a1, a2, a3, a4, a5, b0, b1, b2, b3, b4, b5]) flFp2 rfl (A4.keep h.out) rfl _ rfl)) ?_
    refine PlanInit.cons (ps_call (v := nv 6 [v0, v1]) rfl rfl rfl (fun W' => ex_call (vs := [nv 6 [a2, a3], nv 6 [b2, b3]]) rfl Try.call69 rfl) (fun W' h => hc _)) ?_
    exact PlanInit.one
  refine last_store (t := 26) (xs := rows 6 [0, 0]) (ys := rows 6 [v0, v1]) rfl rfl (fun W' h => N3.keep h.out) (len_rows rfl) (fun W' h => ex_storen (K := 6) (l := [0, 0]) (m := [v0, v1]) flFp2 rfl rfl (N3.keep h.out) rfl) ?_
  intro w7 w8 hb7 N8 hst8 hoth8
  refine then_n ?_
  have A9 := A4.keep hb7.out
  have A10 := N3.keep hb7.out
  have HB11 := below_then HB5 hb7.out
  have A12 := hoth8 _ _ _ (Nat.ne_of_lt N1.lt) A9
  have HB13 := hst8 _ _ HB11 HB2.size
  exact wp_ret (bodyPost_ret (ret_celln (K := 6) Try.results66 rfl N8 flFp2) rfl ⟨rfl, HB13⟩)

set_option maxRecDepth 20000 in
set_option maxHeartbeats 4000000 in
theorem coupleproduct_2 (a0 a1 a2 a3 a4 a5 b0 b1 b2 b3 b4 b5 v0 v1 : Nat) (hc : ∀ w, Calls Try.prog 69 #[nv 6 [a4, a5], nv 6 [b4, b5]] w (Is (nv 6 [v0, v1]) w)) (w : World) :
    Calls Try.prog 66 #[nv 6 [a0, a1, a2, a3, a4, a5, b0, b1, b2, b3, b4, b5], .int .i64 2] w (Is (nv 6 [v0, v1]) w) := by
  go_enter Try.func66, Try.ntmps66
  refine seq_lit ?_
  refine sq_new (a' := ⟨#[nv 6 [a0, a1, a2, a3, a4, a5, b0, b1, b2, b3, b4, b5], .int .i64 2, .pointer (some ⟨w.heap.size, 0, none⟩), undef, undef, undef, undef, undef, undef, undef, undef, undef, undef, undef], []⟩) (xs := rows 6 [a0, a1, a2, a3, a4, a5, b0, b1, b2, b3, b4, b5]) rfl rfl (ex_boxn (K := 6) (l := [a0, a1, a2, a3, a4, a5, b0, b1, b2, b3, b4, b5]) rfl) ?_
  intro w1 N1 hb1
  have HB2 := below_then (Below.refl w.heap.size w) hb1
  refine sq_new (a' := ⟨#[nv 6 [a0, a1, a2, a3, a4, a5, b0, b1, b2, b3, b4, b5], .int .i64 2, .pointer (some ⟨w.heap.size, 0, none⟩), undef, .pointer (some ⟨w1.heap.size, 0, none⟩), undef, undef, undef, undef, undef, undef, undef, undef, undef], []⟩) (xs := rows 6 [0, 0]) rfl rfl (ex_alloc zFp2) ?_
  intro w3 N3 hb3
  have A4 := N1.keep hb3
  have HB5 := below_then HB2 hb3
  refine seq_nil ?_
  refine wp_seq (wp_region_last (F := ⟨#[nv 6 [a0, a1, a2, a3, a4, a5, b0, b1, b2, b3, b4, b5], .int .i64 2, .pointer (some ⟨w.heap.size, 0, none⟩), undef, .pointer (some ⟨w1.heap.size, 0, none⟩), .int .i64 2, .pointer (some ⟨w.heap.size, 0, none⟩), .pointer (some ⟨w.heap.size, 24, none⟩), nv 6 [a4, a5], .int .i64 2, .pointer (some ⟨w.heap.size, 36, none⟩), .pointer (some ⟨w.heap.size, 60, none⟩), nv 6 [b4, b5], nv 6 [v0, v1]], []⟩) (S := Bel w3) [(5, .int .i64 2), (6, .pointer (some ⟨w.heap.size, 0, none⟩)), (7, .pointer (some ⟨w.heap.size, 24, none⟩)), (8, nv 6 [a4, a5]), (9, .int .i64 2), (10, .pointer (some ⟨w.heap.size, 36, none⟩)), (11, .pointer (some ⟨w.heap.size, 60, none⟩)), (12, nv 6 [b4, b5]), (13, nv 6 [v0, v1])] 9 _ (by kernel_rfl) (by kernel_rfl) (by kernel_rfl) (by kernel_rfl) rfl rfl (by kernel_rfl) rfl (by simp only [putAll, List.setIfInBounds_toArray, List.set_cons_zero, List.set_cons_succ]) (Bel.start _) ?_ ?_)
  · refine PlanInit.cons (ps_val (v := .int .i64 2) rfl rfl rfl (fun W' h => ex_move _)) ?_
    refine PlanInit.cons (ps_val (v := .pointer (some ⟨w.heap.size, 0, none⟩)) rfl rfl rfl (fun W' h => ex_field faCouple_0 rfl)) ?_
    refine PlanInit.cons (ps_val (v := .pointer (some ⟨w.heap.size, 24, none⟩)) rfl rfl rfl (fun W' h => ex_index 2 arParts rfl rfl (by decide))) ?_
    refine PlanInit.cons (ps_val (v := nv 6 [a4, a5]) rfl rfl rfl (fun W' h => ex_loadn (K := 6) (k := 4) (j := 2) (l := [a0, a1, a2, a3, a4, a5, b0, b1, b2, b3, b4, b5]) flFp2 rfl (A4.keep h.out) rfl _ rfl)) ?_
    refine PlanInit.cons (ps_val (v := .int .i64 2) rfl rfl rfl (fun W' h => ex_move _)) ?_
    refine PlanInit.cons (ps_val (v := .pointer (some ⟨w.heap.size, 36, none⟩)) rfl rfl rfl (fun W' h => ex_field faCouple_1 rfl)) ?_
    refine PlanInit.cons (ps_val (v := .pointer (some ⟨w.heap.size, 60, none⟩)) rfl rfl rfl (fun W' h => ex_index 2 arParts rfl rfl (by decide))) ?_
    refine PlanInit.cons (ps_val (v := nv 6 [b4, b5]) rfl rfl rfl (fun W' h => ex_loadn (K := 6) (k := 10) (j := 2) (l := [a0, a1, a2, a3, a4, a5, b0, b1, b2, b3, b4, b5]) flFp2 rfl (A4.keep h.out) rfl _ rfl)) ?_
    refine PlanInit.cons (ps_call (v := nv 6 [v0, v1]) rfl rfl rfl (fun W' => ex_call (vs := [nv 6 [a4, a5], nv 6 [b4, b5]]) rfl Try.call69 rfl) (fun W' h => hc _)) ?_
    exact PlanInit.one
  refine last_store (t := 26) (xs := rows 6 [0, 0]) (ys := rows 6 [v0, v1]) rfl rfl (fun W' h => N3.keep h.out) (len_rows rfl) (fun W' h => ex_storen (K := 6) (l := [0, 0]) (m := [v0, v1]) flFp2 rfl rfl (N3.keep h.out) rfl) ?_
  intro w7 w8 hb7 N8 hst8 hoth8
  refine then_n ?_
  have A9 := A4.keep hb7.out
  have A10 := N3.keep hb7.out
  have HB11 := below_then HB5 hb7.out
  have A12 := hoth8 _ _ _ (Nat.ne_of_lt N1.lt) A9
  have HB13 := hst8 _ _ HB11 HB2.size
  exact wp_ret (bodyPost_ret (ret_celln (K := 6) Try.results66 rfl N8 flFp2) rfl ⟨rfl, HB13⟩)

set_option maxRecDepth 20000 in
set_option maxHeartbeats 4000000 in
theorem sextClean_w (a0 a1 a2 a3 a4 a5 v0 v1 v2 v3 v4 v5 : Nat) (hc0 : ∀ w, Calls Try.prog 61 #[nv 6 [a0, a1]] w (Is (nv 6 [v0, v1]) w)) (hc1 : ∀ w, Calls Try.prog 61 #[nv 6 [a2, a3]] w (Is (nv 6 [v2, v3]) w)) (hc2 : ∀ w, Calls Try.prog 61 #[nv 6 [a4, a5]] w (Is (nv 6 [v4, v5]) w)) (w : World) :
    Calls Try.prog 25 #[nv 6 [a0, a1, a2, a3, a4, a5]] w (Is (nv 6 [v0, v1, v2, v3, v4, v5]) w) := by
  go_enter Try.func25, Try.ntmps25
  refine seq_lit ?_
  refine sq_new (a' := ⟨#[nv 6 [a0, a1, a2, a3, a4, a5], .pointer (some ⟨w.heap.size, 0, none⟩), undef, undef, undef, undef, undef], []⟩) (xs := rows 6 [a0, a1, a2, a3, a4, a5]) rfl rfl (ex_boxn (K := 6) (l := [a0, a1, a2, a3, a4, a5]) rfl) ?_
  intro w1 N1 hb1
  have HB2 := below_then (Below.refl w.heap.size w) hb1
  refine sq_new (a' := ⟨#[nv 6 [a0, a1, a2, a3, a4, a5], .pointer (some ⟨w.heap.size, 0, none⟩), .pointer (some ⟨w1.heap.size, 0, none⟩), undef, undef, undef, undef], []⟩) (xs := rows 6 [0, 0, 0, 0, 0, 0]) rfl rfl (ex_alloc zFp6) ?_
  intro w3 N3 hb3
  have A4 := N1.keep hb3
  have HB5 := below_then HB2 hb3
  refine seq_nil ?_
  refine seq_lit ?_
  refine sq_val (a' := ⟨#[nv 6 [a0, a1, a2, a3, a4, a5], .pointer (some ⟨w.heap.size, 0, none⟩), .pointer (some ⟨w1.heap.size, 0, none⟩), nv 6 [a0, a1, a2, a3, a4, a5], undef, undef, undef], []⟩) (v := nv 6 [a0, a1, a2, a3, a4, a5]) rfl rfl (ex_loadn (K := 6) (k := 0) (j := 6) (l := [a0, a1, a2, a3, a4, a5]) flFp6 rfl A4 rfl _ rfl) ?_
  refine sq_call (a' := ⟨#[nv 6 [a0, a1, a2, a3, a4, a5], .pointer (some ⟨w.heap.size, 0, none⟩), .pointer (some ⟨w1.heap.size, 0, none⟩), nv 6 [a0, a1, a2, a3, a4, a5], nv 6 [a0, a1, a2, a3, a4, a5], undef, undef], []⟩) (v := nv 6 [a0, a1, a2, a3, a4, a5]) rfl rfl (ex_call (vs := [nv 6 [a0, a1, a2, a3, a4, a5]]) rfl Try.call44 rfl) (sextrow_w a0 a1 a2 a3 a4 a5 _) ?_
  intro w7 hb7
  have A8 := A4.keep hb7
  have A9 := N3.keep hb7
  have HB10 := below_then HB5 hb7
  refine sq_val (a' := ⟨#[nv 6 [a0, a1, a2, a3, a4, a5], .pointer (some ⟨w.heap.size, 0, none⟩), .pointer (some ⟨w1.heap.size, 0, none⟩), nv 6 [a0, a1, a2, a3, a4, a5], nv 6 [a0, a1, a2, a3, a4, a5], .func (.func 45) #[nv 6 [a0, a1, a2, a3, a4, a5]] #[], undef], []⟩) (v := .func (.func 45) #[nv 6 [a0, a1, a2, a3, a4, a5]] #[]) rfl rfl (ex_bind (vs := [nv 6 [a0, a1, a2, a3, a4, a5]]) rfl) ?_
  refine sq_call (a' := ⟨#[nv 6 [a0, a1, a2, a3, a4, a5], .pointer (some ⟨w.heap.size, 0, none⟩), .pointer (some ⟨w1.heap.size, 0, none⟩), nv 6 [a0, a1, a2, a3, a4, a5], nv 6 [a0, a1, a2, a3, a4, a5], .func (.func 45) #[nv 6 [a0, a1, a2, a3, a4, a5]] #[], nv 6 [v0, v1, v2, v3, v4, v5]], []⟩) (v := nv 6 [v0, v1, v2, v3, v4, v5]) rfl rfl (ex_call (vs := [.func (.func 45) #[nv 6 [a0, a1, a2, a3, a4, a5]] #[]]) rfl Try.call43 rfl) (sextall_w _ Try.call45 _ v0 v1 v2 v3 v4 v5 (fun w => partsclean_0 a0 a1 a2 a3 a4 a5 v0 v1 hc0 w) (fun w => partsclean_1 a0 a1 a2 a3 a4 a5 v2 v3 hc1 w) (fun w => partsclean_2 a0 a1 a2 a3 a4 a5 v4 v5 hc2 w) _) ?_
  intro w11 hb11
  have A12 := A8.keep hb11
  have A13 := A9.keep hb11
  have HB14 := below_then HB10 hb11
  refine sq_store (a' := ⟨#[nv 6 [a0, a1, a2, a3, a4, a5], .pointer (some ⟨w.heap.size, 0, none⟩), .pointer (some ⟨w1.heap.size, 0, none⟩), nv 6 [a0, a1, a2, a3, a4, a5], nv 6 [a0, a1, a2, a3, a4, a5], .func (.func 45) #[nv 6 [a0, a1, a2, a3, a4, a5]] #[], nv 6 [v0, v1, v2, v3, v4, v5]], []⟩) (t := 28) (xs := rows 6 [0, 0, 0, 0, 0, 0]) (ys := rows 6 [v0, v1, v2, v3, v4, v5]) rfl rfl A13 (len_rows rfl) (ex_storen (K := 6) (l := [0, 0, 0, 0, 0, 0]) (m := [v0, v1, v2, v3, v4, v5]) flFp6 rfl rfl A13 rfl) ?_
  intro w15 N15 hst15 hoth15
  have A16 := hoth15 _ _ _ (Nat.ne_of_lt N1.lt) A12
  have HB17 := hst15 _ _ HB14 HB2.size
  refine seq_nil ?_
  exact wp_ret (bodyPost_ret (ret_celln (K := 6) Try.results25 rfl N15 flFp6) rfl ⟨rfl, HB17⟩)

set_option maxRecDepth 20000 in
set_option maxHeartbeats 4000000 in
theorem sextNeg_w (a0 a1 a2 a3 a4 a5 v0 v1 v2 v3 v4 v5 : Nat) (hc0 : ∀ w, Calls Try.prog 64 #[nv 6 [a0, a1]] w (Is (nv 6 [v0, v1]) w)) (hc1 : ∀ w, Calls Try.prog 64 #[nv 6 [a2, a3]] w (Is (nv 6 [v2, v3]) w)) (hc2 : ∀ w, Calls Try.prog 64 #[nv 6 [a4, a5]] w (Is (nv 6 [v4, v5]) w)) (w : World) :
    Calls Try.prog 28 #[nv 6 [a0, a1, a2, a3, a4, a5]] w (Is (nv 6 [v0, v1, v2, v3, v4, v5]) w) := by
  go_enter Try.func28, Try.ntmps28
  refine seq_lit ?_
  refine sq_new (a' := ⟨#[nv 6 [a0, a1, a2, a3, a4, a5], .pointer (some ⟨w.heap.size, 0, none⟩), undef, undef, undef, undef, undef], []⟩) (xs := rows 6 [a0, a1, a2, a3, a4, a5]) rfl rfl (ex_boxn (K := 6) (l := [a0, a1, a2, a3, a4, a5]) rfl) ?_
  intro w1 N1 hb1
  have HB2 := below_then (Below.refl w.heap.size w) hb1
  refine sq_new (a' := ⟨#[nv 6 [a0, a1, a2, a3, a4, a5], .pointer (some ⟨w.heap.size, 0, none⟩), .pointer (some ⟨w1.heap.size, 0, none⟩), undef, undef, undef, undef], []⟩) (xs := rows 6 [0, 0, 0, 0, 0, 0]) rfl rfl (ex_alloc zFp6) ?_
  intro w3 N3 hb3
  have A4 := N1.keep hb3
  have HB5 := below_then HB2 hb3
  refine seq_nil ?_
  refine seq_lit ?_
  refine sq_val (a' := ⟨#[nv 6 [a0, a1, a2, a3, a4, a5], .pointer (some ⟨w.heap.size, 0, none⟩), .pointer (some ⟨w1.heap.size, 0, none⟩), nv 6 [a0, a1, a2, a3, a4, a5], undef, undef, undef], []⟩) (v := nv 6 [a0, a1, a2, a3, a4, a5]) rfl rfl (ex_loadn (K := 6) (k := 0) (j := 6) (l := [a0, a1, a2, a3, a4, a5]) flFp6 rfl A4 rfl _ rfl) ?_
  refine sq_call (a' := ⟨#[nv 6 [a0, a1, a2, a3, a4, a5], .pointer (some ⟨w.heap.size, 0, none⟩), .pointer (some ⟨w1.heap.size, 0, none⟩), nv 6 [a0, a1, a2, a3, a4, a5], nv 6 [a0, a1, a2, a3, a4, a5], undef, undef], []⟩) (v := nv 6 [a0, a1, a2, a3, a4, a5]) rfl rfl (ex_call (vs := [nv 6 [a0, a1, a2, a3, a4, a5]]) rfl Try.call44 rfl) (sextrow_w a0 a1 a2 a3 a4 a5 _) ?_
  intro w7 hb7
  have A8 := A4.keep hb7
  have A9 := N3.keep hb7
  have HB10 := below_then HB5 hb7
  refine sq_val (a' := ⟨#[nv 6 [a0, a1, a2, a3, a4, a5], .pointer (some ⟨w.heap.size, 0, none⟩), .pointer (some ⟨w1.heap.size, 0, none⟩), nv 6 [a0, a1, a2, a3, a4, a5], nv 6 [a0, a1, a2, a3, a4, a5], .func (.func 49) #[nv 6 [a0, a1, a2, a3, a4, a5]] #[], undef], []⟩) (v := .func (.func 49) #[nv 6 [a0, a1, a2, a3, a4, a5]] #[]) rfl rfl (ex_bind (vs := [nv 6 [a0, a1, a2, a3, a4, a5]]) rfl) ?_
  refine sq_call (a' := ⟨#[nv 6 [a0, a1, a2, a3, a4, a5], .pointer (some ⟨w.heap.size, 0, none⟩), .pointer (some ⟨w1.heap.size, 0, none⟩), nv 6 [a0, a1, a2, a3, a4, a5], nv 6 [a0, a1, a2, a3, a4, a5], .func (.func 49) #[nv 6 [a0, a1, a2, a3, a4, a5]] #[], nv 6 [v0, v1, v2, v3, v4, v5]], []⟩) (v := nv 6 [v0, v1, v2, v3, v4, v5]) rfl rfl (ex_call (vs := [.func (.func 49) #[nv 6 [a0, a1, a2, a3, a4, a5]] #[]]) rfl Try.call43 rfl) (sextall_w _ Try.call49 _ v0 v1 v2 v3 v4 v5 (fun w => partsnegative_0 a0 a1 a2 a3 a4 a5 v0 v1 hc0 w) (fun w => partsnegative_1 a0 a1 a2 a3 a4 a5 v2 v3 hc1 w) (fun w => partsnegative_2 a0 a1 a2 a3 a4 a5 v4 v5 hc2 w) _) ?_
  intro w11 hb11
  have A12 := A8.keep hb11
  have A13 := A9.keep hb11
  have HB14 := below_then HB10 hb11
  refine sq_store (a' := ⟨#[nv 6 [a0, a1, a2, a3, a4, a5], .pointer (some ⟨w.heap.size, 0, none⟩), .pointer (some ⟨w1.heap.size, 0, none⟩), nv 6 [a0, a1, a2, a3, a4, a5], nv 6 [a0, a1, a2, a3, a4, a5], .func (.func 49) #[nv 6 [a0, a1, a2, a3, a4, a5]] #[], nv 6 [v0, v1, v2, v3, v4, v5]], []⟩) (t := 28) (xs := rows 6 [0, 0, 0, 0, 0, 0]) (ys := rows 6 [v0, v1, v2, v3, v4, v5]) rfl rfl A13 (len_rows rfl) (ex_storen (K := 6) (l := [0, 0, 0, 0, 0, 0]) (m := [v0, v1, v2, v3, v4, v5]) flFp6 rfl rfl A13 rfl) ?_
  intro w15 N15 hst15 hoth15
  have A16 := hoth15 _ _ _ (Nat.ne_of_lt N1.lt) A12
  have HB17 := hst15 _ _ HB14 HB2.size
  refine seq_nil ?_
  exact wp_ret (bodyPost_ret (ret_celln (K := 6) Try.results28 rfl N15 flFp6) rfl ⟨rfl, HB17⟩)

set_option maxRecDepth 20000 in
set_option maxHeartbeats 4000000 in
theorem sextAdd_w (a0 a1 a2 a3 a4 a5 b0 b1 b2 b3 b4 b5 v0 v1 v2 v3 v4 v5 : Nat) (hc0 : ∀ w, Calls Try.prog 62 #[nv 6 [a0, a1], nv 6 [b0, b1]] w (Is (nv 6 [v0, v1]) w)) (hc1 : ∀ w, Calls Try.prog 62 #[nv 6 [a2, a3], nv 6 [b2, b3]] w (Is (nv 6 [v2, v3]) w)) (hc2 : ∀ w, Calls Try.prog 62 #[nv 6 [a4, a5], nv 6 [b4, b5]] w (Is (nv 6 [v4, v5]) w)) (w : World) :
    Calls Try.prog 26 #[nv 6 [a0, a1, a2, a3, a4, a5], nv 6 [b0, b1, b2, b3, b4, b5]] w (Is (nv 6 [v0, v1, v2, v3, v4, v5]) w) := by
  go_enter Try.func26, Try.ntmps26
  refine seq_lit ?_
  refine sq_new (a' := ⟨#[nv 6 [a0, a1, a2, a3, a4, a5], nv 6 [b0, b1, b2, b3, b4, b5], .pointer (some ⟨w.heap.size, 0, none⟩), undef, undef, undef, undef, undef, undef, undef], []⟩) (xs := rows 6 [a0, a1, a2, a3, a4, a5]) rfl rfl (ex_boxn (K := 6) (l := [a0, a1, a2, a3, a4, a5]) rfl) ?_
  intro w1 N1 hb1
  have HB2 := below_then (Below.refl w.heap.size w) hb1
  refine sq_new (a' := ⟨#[nv 6 [a0, a1, a2, a3, a4, a5], nv 6 [b0, b1, b2, b3, b4, b5], .pointer (some ⟨w.heap.size, 0, none⟩), .pointer (some ⟨w1.heap.size, 0, none⟩), undef, undef, undef, undef, undef, undef], []⟩) (xs := rows 6 [b0, b1, b2, b3, b4, b5]) rfl rfl (ex_boxn (K := 6) (l := [b0, b1, b2, b3, b4, b5]) rfl) ?_
  intro w3 N3 hb3
  have A4 := N1.keep hb3
  have HB5 := below_then HB2 hb3
  refine sq_new (a' := ⟨#[nv 6 [a0, a1, a2, a3, a4, a5], nv 6 [b0, b1, b2, b3, b4, b5], .pointer (some ⟨w.heap.size, 0, none⟩), .pointer (some ⟨w1.heap.size, 0, none⟩), .pointer (some ⟨w3.heap.size, 0, none⟩), undef, undef, undef, undef, undef], []⟩) (xs := rows 6 [0, 0, 0, 0, 0, 0]) rfl rfl (ex_alloc zFp6) ?_
  intro w7 N7 hb7
  have A8 := A4.keep hb7
  have A9 := N3.keep hb7
  have HB10 := below_then HB5 hb7
  refine seq_nil ?_
  refine seq_lit ?_
  refine sq_val (a' := ⟨#[nv 6 [a0, a1, a2, a3, a4, a5], nv 6 [b0, b1, b2, b3, b4, b5], .pointer (some ⟨w.heap.size, 0, none⟩), .pointer (some ⟨w1.heap.size, 0, none⟩), .pointer (some ⟨w3.heap.size, 0, none⟩), nv 6 [a0, a1, a2, a3, a4, a5], undef, undef, undef, undef], []⟩) (v := nv 6 [a0, a1, a2, a3, a4, a5]) rfl rfl (ex_loadn (K := 6) (k := 0) (j := 6) (l := [a0, a1, a2, a3, a4, a5]) flFp6 rfl A8 rfl _ rfl) ?_
  refine sq_val (a' := ⟨#[nv 6 [a0, a1, a2, a3, a4, a5], nv 6 [b0, b1, b2, b3, b4, b5], .pointer (some ⟨w.heap.size, 0, none⟩), .pointer (some ⟨w1.heap.size, 0, none⟩), .pointer (some ⟨w3.heap.size, 0, none⟩), nv 6 [a0, a1, a2, a3, a4, a5], nv 6 [b0, b1, b2, b3, b4, b5], undef, undef, undef], []⟩) (v := nv 6 [b0, b1, b2, b3, b4, b5]) rfl rfl (ex_loadn (K := 6) (k := 0) (j := 6) (l := [b0, b1, b2, b3, b4, b5]) flFp6 rfl A9 rfl _ rfl) ?_
  refine sq_call (a' := ⟨#[nv 6 [a0, a1, a2, a3, a4, a5], nv 6 [b0, b1, b2, b3, b4, b5], .pointer (some ⟨w.heap.size, 0, none⟩), .pointer (some ⟨w1.heap.size, 0, none⟩), .pointer (some ⟨w3.heap.size, 0, none⟩), nv 6 [a0, a1, a2, a3, a4, a5], nv 6 [b0, b1, b2, b3, b4, b5], nv 6 [a0, a1, a2, a3, a4, a5, b0, b1, b2, b3, b4, b5], undef, undef], []⟩) (v := nv 6 [a0, a1, a2, a3, a4, a5, b0, b1, b2, b3, b4, b5]) rfl rfl (ex_call (vs := [nv 6 [a0, a1, a2, a3, a4, a5], nv 6 [b0, b1, b2, b3, b4, b5]]) rfl Try.call46 rfl) (sextbeside_w a0 a1 a2 a3 a4 a5 b0 b1 b2 b3 b4 b5 _) ?_
  intro w13 hb13
  have A14 := A8.keep hb13
  have A15 := A9.keep hb13
  have A16 := N7.keep hb13
  have HB17 := below_then HB10 hb13
  refine sq_val (a' := ⟨#[nv 6 [a0, a1, a2, a3, a4, a5], nv 6 [b0, b1, b2, b3, b4, b5], .pointer (some ⟨w.heap.size, 0, none⟩), .pointer (some ⟨w1.heap.size, 0, none⟩), .pointer (some ⟨w3.heap.size, 0, none⟩), nv 6 [a0, a1, a2, a3, a4, a5], nv 6 [b0, b1, b2, b3, b4, b5], nv 6 [a0, a1, a2, a3, a4, a5, b0, b1, b2, b3, b4, b5], .func (.func 47) #[nv 6 [a0, a1, a2, a3, a4, a5, b0, b1, b2, b3, b4, b5]] #[], undef], []⟩) (v := .func (.func 47) #[nv 6 [a0, a1, a2, a3, a4, a5, b0, b1, b2, b3, b4, b5]] #[]) rfl rfl (ex_bind (vs := [nv 6 [a0, a1, a2, a3, a4, a5, b0, b1, b2, b3, b4, b5]]) rfl) ?_
  refine sq_call (a' := ⟨#[nv 6 [a0, a1, a2, a3, a4, a5], nv 6 [b0, b1, b2, b3, b4, b5], .pointer (some ⟨w.heap.size, 0, none⟩), .pointer (some ⟨w1.heap.size, 0, none⟩), .pointer (some ⟨w3.heap.size, 0, none⟩), nv 6 [a0, a1, a2, a3, a4, a5], nv 6 [b0, b1, b2, b3, b4, b5], nv 6 [a0, a1, a2, a3, a4, a5, b0, b1, b2, b3, b4, b5], .func (.func 47) #[nv 6 [a0, a1, a2, a3, a4, a5, b0, b1, b2, b3, b4, b5]] #[], nv 6 [v0, v1, v2, v3, v4, v5]], []⟩) (v := nv 6 [v0, v1, v2, v3, v4, v5]) rfl rfl (ex_call (vs := [.func (.func 47) #[nv 6 [a0, a1, a2, a3, a4, a5, b0, b1, b2, b3, b4, b5]] #[]]) rfl Try.call43 rfl) (sextall_w _ Try.call47 _ v0 v1 v2 v3 v4 v5 (fun w => couplesum_0 a0 a1 a2 a3 a4 a5 b0 b1 b2 b3 b4 b5 v0 v1 hc0 w) (fun w => couplesum_1 a0 a1 a2 a3 a4 a5 b0 b1 b2 b3 b4 b5 v2 v3 hc1 w) (fun w => couplesum_2 a0 a1 a2 a3 a4 a5 b0 b1 b2 b3 b4 b5 v4 v5 hc2 w) _) ?_
  intro w18 hb18
  have A19 := A14.keep hb18
  have A20 := A15.keep hb18
  have A21 := A16.keep hb18
  have HB22 := below_then HB17 hb18
  refine sq_store (a' := ⟨#[nv 6 [a0, a1, a2, a3, a4, a5], nv 6 [b0, b1, b2, b3, b4, b5], .pointer (some ⟨w.heap.size, 0, none⟩), .pointer (some ⟨w1.heap.size, 0, none⟩), .pointer (some ⟨w3.heap.size, 0, none⟩), nv 6 [a0, a1, a2, a3, a4, a5], nv 6 [b0, b1, b2, b3, b4, b5], nv 6 [a0, a1, a2, a3, a4, a5, b0, b1, b2, b3, b4, b5], .func (.func 47) #[nv 6 [a0, a1, a2, a3, a4, a5, b0, b1, b2, b3, b4, b5]] #[], nv 6 [v0, v1, v2, v3, v4, v5]], []⟩) (t := 28) (xs := rows 6 [0, 0, 0, 0, 0, 0]) (ys := rows 6 [v0, v1, v2, v3, v4, v5]) rfl rfl A21 (len_rows rfl) (ex_storen (K := 6) (l := [0, 0, 0, 0, 0, 0]) (m := [v0, v1, v2, v3, v4, v5]) flFp6 rfl rfl A21 rfl) ?_
  intro w23 N23 hst23 hoth23
  have A24 := hoth23 _ _ _ (Nat.ne_of_lt A4.lt) A19
  have A25 := hoth23 _ _ _ (Nat.ne_of_lt N3.lt) A20
  have HB26 := hst23 _ _ HB22 HB5.size
  refine seq_nil ?_
  exact wp_ret (bodyPost_ret (ret_celln (K := 6) Try.results26 rfl N23 flFp6) rfl ⟨rfl, HB26⟩)

set_option maxRecDepth 20000 in
set_option maxHeartbeats 4000000 in
theorem sextSub_w (a0 a1 a2 a3 a4 a5 b0 b1 b2 b3 b4 b5 v0 v1 v2 v3 v4 v5 : Nat) (hc0 : ∀ w, Calls Try.prog 67 #[nv 6 [a0, a1], nv 6 [b0, b1]] w (Is (nv 6 [v0, v1]) w)) (hc1 : ∀ w, Calls Try.prog 67 #[nv 6 [a2, a3], nv 6 [b2, b3]] w (Is (nv 6 [v2, v3]) w)) (hc2 : ∀ w, Calls Try.prog 67 #[nv 6 [a4, a5], nv 6 [b4, b5]] w (Is (nv 6 [v4, v5]) w)) (w : World) :
    Calls Try.prog 32 #[nv 6 [a0, a1, a2, a3, a4, a5], nv 6 [b0, b1, b2, b3, b4, b5]] w (Is (nv 6 [v0, v1, v2, v3, v4, v5]) w) := by
  go_enter Try.func32, Try.ntmps32
  refine seq_lit ?_
  refine sq_new (a' := ⟨#[nv 6 [a0, a1, a2, a3, a4, a5], nv 6 [b0, b1, b2, b3, b4, b5], .pointer (some ⟨w.heap.size, 0, none⟩), undef, undef, undef, undef, undef, undef, undef], []⟩) (xs := rows 6 [a0, a1, a2, a3, a4, a5]) rfl rfl (ex_boxn (K := 6) (l := [a0, a1, a2, a3, a4, a5]) rfl) ?_
  intro w1 N1 hb1
  have HB2 := below_then (Below.refl w.heap.size w) hb1
  refine sq_new (a' := ⟨#[nv 6 [a0, a1, a2, a3, a4, a5], nv 6 [b0, b1, b2, b3, b4, b5], .pointer (some ⟨w.heap.size, 0, none⟩), .pointer (some ⟨w1.heap.size, 0, none⟩), undef, undef, undef, undef, undef, undef], []⟩) (xs := rows 6 [b0, b1, b2, b3, b4, b5]) rfl rfl (ex_boxn (K := 6) (l := [b0, b1, b2, b3, b4, b5]) rfl) ?_
  intro w3 N3 hb3
  have A4 := N1.keep hb3
  have HB5 := below_then HB2 hb3
  refine sq_new (a' := ⟨#[nv 6 [a0, a1, a2, a3, a4, a5], nv 6 [b0, b1, b2, b3, b4, b5], .pointer (some ⟨w.heap.size, 0, none⟩), .pointer (some ⟨w1.heap.size, 0, none⟩), .pointer (some ⟨w3.heap.size, 0, none⟩), undef, undef, undef, undef, undef], []⟩) (xs := rows 6 [0, 0, 0, 0, 0, 0]) rfl rfl (ex_alloc zFp6) ?_
  intro w7 N7 hb7
  have A8 := A4.keep hb7
  have A9 := N3.keep hb7
  have HB10 := below_then HB5 hb7
  refine seq_nil ?_
  refine seq_lit ?_
  refine sq_val (a' := ⟨#[nv 6 [a0, a1, a2, a3, a4, a5], nv 6 [b0, b1, b2, b3, b4, b5], .pointer (some ⟨w.heap.size, 0, none⟩), .pointer (some ⟨w1.heap.size, 0, none⟩), .pointer (some ⟨w3.heap.size, 0, none⟩), nv 6 [a0, a1, a2, a3, a4, a5], undef, undef, undef, undef], []⟩) (v := nv 6 [a0, a1, a2, a3, a4, a5]) rfl rfl (ex_loadn (K := 6) (k := 0) (j := 6) (l := [a0, a1, a2, a3, a4, a5]) flFp6 rfl A8 rfl _ rfl) ?_
  refine sq_val (a' := ⟨#[nv 6 [a0, a1, a2, a3, a4, a5], nv 6 [b0, b1, b2, b3, b4, b5], .pointer (some ⟨w.heap.size, 0, none⟩), .pointer (some ⟨w1.heap.size, 0, none⟩), .pointer (some ⟨w3.heap.size, 0, none⟩), nv 6 [a0, a1, a2, a3, a4, a5], nv 6 [b0, b1, b2, b3, b4, b5], undef, undef, undef], []⟩) (v := nv 6 [b0, b1, b2, b3, b4, b5]) rfl rfl (ex_loadn (K := 6) (k := 0) (j := 6) (l := [b0, b1, b2, b3, b4, b5]) flFp6 rfl A9 rfl _ rfl) ?_
  refine sq_call (a' := ⟨#[nv 6 [a0, a1, a2, a3, a4, a5], nv 6 [b0, b1, b2, b3, b4, b5], .pointer (some ⟨w.heap.size, 0, none⟩), .pointer (some ⟨w1.heap.size, 0, none⟩), .pointer (some ⟨w3.heap.size, 0, none⟩), nv 6 [a0, a1, a2, a3, a4, a5], nv 6 [b0, b1, b2, b3, b4, b5], nv 6 [a0, a1, a2, a3, a4, a5, b0, b1, b2, b3, b4, b5], undef, undef], []⟩) (v := nv 6 [a0, a1, a2, a3, a4, a5, b0, b1, b2, b3, b4, b5]) rfl rfl (ex_call (vs := [nv 6 [a0, a1, a2, a3, a4, a5], nv 6 [b0, b1, b2, b3, b4, b5]]) rfl Try.call46 rfl) (sextbeside_w a0 a1 a2 a3 a4 a5 b0 b1 b2 b3 b4 b5 _) ?_
  intro w13 hb13
  have A14 := A8.keep hb13
  have A15 := A9.keep hb13
  have A16 := N7.keep hb13
  have HB17 := below_then HB10 hb13
  refine sq_val (a' := ⟨#[nv 6 [a0, a1, a2, a3, a4, a5], nv 6 [b0, b1, b2, b3, b4, b5], .pointer (some ⟨w.heap.size, 0, none⟩), .pointer (some ⟨w1.heap.size, 0, none⟩), .pointer (some ⟨w3.heap.size, 0, none⟩), nv 6 [a0, a1, a2, a3, a4, a5], nv 6 [b0, b1, b2, b3, b4, b5], nv 6 [a0, a1, a2, a3, a4, a5, b0, b1, b2, b3, b4, b5], .func (.func 53) #[nv 6 [a0, a1, a2, a3, a4, a5, b0, b1, b2, b3, b4, b5]] #[], undef], []⟩) (v := .func (.func 53) #[nv 6 [a0, a1, a2, a3, a4, a5, b0, b1, b2, b3, b4, b5]] #[]) rfl rfl (ex_bind (vs := [nv 6 [a0, a1, a2, a3, a4, a5, b0, b1, b2, b3, b4, b5]]) rfl) ?_
  refine sq_call (a' := ⟨#[nv 6 [a0, a1, a2, a3, a4, a5], nv 6 [b0, b1, b2, b3, b4, b5], .pointer (some ⟨w.heap.size, 0, none⟩), .pointer (some ⟨w1.heap.size, 0, none⟩), .pointer (some ⟨w3.heap.size, 0, none⟩), nv 6 [a0, a1, a2, a3, a4, a5], nv 6 [b0, b1, b2, b3, b4, b5], nv 6 [a0, a1, a2, a3, a4, a5, b0, b1, b2, b3, b4, b5], .func (.func 53) #[nv 6 [a0, a1, a2, a3, a4, a5, b0, b1, b2, b3, b4, b5]] #[], nv 6 [v0, v1, v2, v3, v4, v5]], []⟩) (v := nv 6 [v0, v1, v2, v3, v4, v5]) rfl rfl (ex_call (vs := [.func (.func 53) #[nv 6 [a0, a1, a2, a3, a4, a5, b0, b1, b2, b3, b4, b5]] #[]]) rfl Try.call43 rfl) (sextall_w _ Try.call53 _ v0 v1 v2 v3 v4 v5 (fun w => coupledifference_0 a0 a1 a2 a3 a4 a5 b0 b1 b2 b3 b4 b5 v0 v1 hc0 w) (fun w => coupledifference_1 a0 a1 a2 a3 a4 a5 b0 b1 b2 b3 b4 b5 v2 v3 hc1 w) (fun w => coupledifference_2 a0 a1 a2 a3 a4 a5 b0 b1 b2 b3 b4 b5 v4 v5 hc2 w) _) ?_
  intro w18 hb18
  have A19 := A14.keep hb18
  have A20 := A15.keep hb18
  have A21 := A16.keep hb18
  have HB22 := below_then HB17 hb18
  refine sq_store (a' := ⟨#[nv 6 [a0, a1, a2, a3, a4, a5], nv 6 [b0, b1, b2, b3, b4, b5], .pointer (some ⟨w.heap.size, 0, none⟩), .pointer (some ⟨w1.heap.size, 0, none⟩), .pointer (some ⟨w3.heap.size, 0, none⟩), nv 6 [a0, a1, a2, a3, a4, a5], nv 6 [b0, b1, b2, b3, b4, b5], nv 6 [a0, a1, a2, a3, a4, a5, b0, b1, b2, b3, b4, b5], .func (.func 53) #[nv 6 [a0, a1, a2, a3, a4, a5, b0, b1, b2, b3, b4, b5]] #[], nv 6 [v0, v1, v2, v3, v4, v5]], []⟩) (t := 28) (xs := rows 6 [0, 0, 0, 0, 0, 0]) (ys := rows 6 [v0, v1, v2, v3, v4, v5]) rfl rfl A21 (len_rows rfl) (ex_storen (K := 6) (l := [0, 0, 0, 0, 0, 0]) (m := [v0, v1, v2, v3, v4, v5]) flFp6 rfl rfl A21 rfl) ?_
  intro w23 N23 hst23 hoth23
  have A24 := hoth23 _ _ _ (Nat.ne_of_lt A4.lt) A19
  have A25 := hoth23 _ _ _ (Nat.ne_of_lt N3.lt) A20
  have HB26 := hst23 _ _ HB22 HB5.size
  refine seq_nil ?_
  exact wp_ret (bodyPost_ret (ret_celln (K := 6) Try.results32 rfl N23 flFp6) rfl ⟨rfl, HB26⟩)

set_option maxRecDepth 20000 in
set_option maxHeartbeats 4000000 in
theorem sextscale_w (a0 a1 a2 a3 a4 a5 b0 b1 v0 v1 v2 v3 v4 v5 : Nat) (hc0 : ∀ w, Calls Try.prog 69 #[nv 6 [a0, a1], nv 6 [b0, b1]] w (Is (nv 6 [v0, v1]) w)) (hc1 : ∀ w, Calls Try.prog 69 #[nv 6 [a2, a3], nv 6 [b0, b1]] w (Is (nv 6 [v2, v3]) w)) (hc2 : ∀ w, Calls Try.prog 69 #[nv 6 [a4, a5], nv 6 [b0, b1]] w (Is (nv 6 [v4, v5]) w)) (w : World) :
    Calls Try.prog 51 #[nv 6 [a0, a1, a2, a3, a4, a5], nv 6 [b0, b1]] w (Is (nv 6 [v0, v1, v2, v3, v4, v5]) w) := by
  go_enter Try.func51, Try.ntmps51
  refine seq_lit ?_
  refine sq_new (a' := ⟨#[nv 6 [a0, a1, a2, a3, a4, a5], nv 6 [b0, b1], .pointer (some ⟨w.heap.size, 0, none⟩), undef, undef, undef, undef, undef, undef, undef, undef, undef, undef], []⟩) (xs := rows 6 [a0, a1, a2, a3, a4, a5]) rfl rfl (ex_boxn (K := 6) (l := [a0, a1, a2, a3, a4, a5]) rfl) ?_
  intro w1 N1 hb1
  have HB2 := below_then (Below.refl w.heap.size w) hb1
  refine sq_new (a' := ⟨#[nv 6 [a0, a1, a2, a3, a4, a5], nv 6 [b0, b1], .pointer (some ⟨w.heap.size, 0, none⟩), .pointer (some ⟨w1.heap.size, 0, none⟩), undef, undef, undef, undef, undef, undef, undef, undef, undef], []⟩) (xs := rows 6 [b0, b1]) rfl rfl (ex_boxn (K := 6) (l := [b0, b1]) rfl) ?_
  intro w3 N3 hb3
  have A4 := N1.keep hb3
  have HB5 := below_then HB2 hb3
  refine sq_new (a' := ⟨#[nv 6 [a0, a1, a2, a3, a4, a5], nv 6 [b0, b1], .pointer (some ⟨w.heap.size, 0, none⟩), .pointer (some ⟨w1.heap.size, 0, none⟩), .pointer (some ⟨w3.heap.size, 0, none⟩), undef, undef, undef, undef, undef, undef, undef, undef], []⟩) (xs := rows 6 [0, 0, 0, 0, 0, 0]) rfl rfl (ex_alloc zFp6) ?_
  intro w7 N7 hb7
  have A8 := A4.keep hb7
  have A9 := N3.keep hb7
  have HB10 := below_then HB5 hb7
  refine seq_nil ?_
  refine seq_lit ?_
  refine sq_val (a' := ⟨#[nv 6 [a0, a1, a2, a3, a4, a5], nv 6 [b0, b1], .pointer (some ⟨w.heap.size, 0, none⟩), .pointer (some ⟨w1.heap.size, 0, none⟩), .pointer (some ⟨w3.heap.size, 0, none⟩), nv 6 [a0, a1, a2, a3, a4, a5], undef, undef, undef, undef, undef, undef, undef], []⟩) (v := nv 6 [a0, a1, a2, a3, a4, a5]) rfl rfl (ex_loadn (K := 6) (k := 0) (j := 6) (l := [a0, a1, a2, a3, a4, a5]) flFp6 rfl A8 rfl _ rfl) ?_
  refine sq_val (a' := ⟨#[nv 6 [a0, a1, a2, a3, a4, a5], nv 6 [b0, b1], .pointer (some ⟨w.heap.size, 0, none⟩), .pointer (some ⟨w1.heap.size, 0, none⟩), .pointer (some ⟨w3.heap.size, 0, none⟩), nv 6 [a0, a1, a2, a3, a4, a5], nv 6 [b0, b1], undef, undef, undef, undef, undef, undef], []⟩) (v := nv 6 [b0, b1]) rfl rfl (ex_loadn (K := 6) (k := 0) (j := 2) (l := [b0, b1]) flFp2 rfl A9 rfl _ rfl) ?_
  refine sq_val (a' := ⟨#[nv 6 [a0, a1, a2, a3, a4, a5], nv 6 [b0, b1], .pointer (some ⟨w.heap.size, 0, none⟩), .pointer (some ⟨w1.heap.size, 0, none⟩), .pointer (some ⟨w3.heap.size, 0, none⟩), nv 6 [a0, a1, a2, a3, a4, a5], nv 6 [b0, b1], nv 6 [b0, b1], undef, undef, undef, undef, undef], []⟩) (v := nv 6 [b0, b1]) rfl rfl (ex_loadn (K := 6) (k := 0) (j := 2) (l := [b0, b1]) flFp2 rfl A9 rfl _ rfl) ?_
  refine sq_val (a' := ⟨#[nv 6 [a0, a1, a2, a3, a4, a5], nv 6 [b0, b1], .pointer (some ⟨w.heap.size, 0, none⟩), .pointer (some ⟨w1.heap.size, 0, none⟩), .pointer (some ⟨w3.heap.size, 0, none⟩), nv 6 [a0, a1, a2, a3, a4, a5], nv 6 [b0, b1], nv 6 [b0, b1], nv 6 [b0, b1], undef, undef, undef, undef], []⟩) (v := nv 6 [b0, b1]) rfl rfl (ex_loadn (K := 6) (k := 0) (j := 2) (l := [b0, b1]) flFp2 rfl A9 rfl _ rfl) ?_
  refine sq_val (a' := ⟨#[nv 6 [a0, a1, a2, a3, a4, a5], nv 6 [b0, b1], .pointer (some ⟨w.heap.size, 0, none⟩), .pointer (some ⟨w1.heap.size, 0, none⟩), .pointer (some ⟨w3.heap.size, 0, none⟩), nv 6 [a0, a1, a2, a3, a4, a5], nv 6 [b0, b1], nv 6 [b0, b1], nv 6 [b0, b1], nv 6 [b0, b1, b0, b1, b0, b1], undef, undef, undef], []⟩) (v := nv 6 [b0, b1, b0, b1, b0, b1]) rfl rfl (ex_build stFp6 (vs := [(0, nv 6 [b0, b1]), (1, nv 6 [b0, b1]), (2, nv 6 [b0, b1])]) rfl (bdABC b0 b1 b0 b1 b0 b1)) ?_
  refine sq_call (a' := ⟨#[nv 6 [a0, a1, a2, a3, a4, a5], nv 6 [b0, b1], .pointer (some ⟨w.heap.size, 0, none⟩), .pointer (some ⟨w1.heap.size, 0, none⟩), .pointer (some ⟨w3.heap.size, 0, none⟩), nv 6 [a0, a1, a2, a3, a4, a5], nv 6 [b0, b1], nv 6 [b0, b1], nv 6 [b0, b1], nv 6 [b0, b1, b0, b1, b0, b1], nv 6 [a0, a1, a2, a3, a4, a5, b0, b1, b0, b1, b0, b1], undef, undef], []⟩) (v := nv 6 [a0, a1, a2, a3, a4, a5, b0, b1, b0, b1, b0, b1]) rfl rfl (ex_call (vs := [nv 6 [a0, a1, a2, a3, a4, a5], nv 6 [b0, b1, b0, b1, b0, b1]]) rfl Try.call46 rfl) (sextbeside_w a0 a1 a2 a3 a4 a5 b0 b1 b0 b1 b0 b1 _) ?_
  intro w13 hb13
  have A14 := A8.keep hb13
  have A15 := A9.keep hb13
  have A16 := N7.keep hb13
  have HB17 := below_then HB10 hb13
  refine sq_val (a' := ⟨#[nv 6 [a0, a1, a2, a3, a4, a5], nv 6 [b0, b1], .pointer (some ⟨w.heap.size, 0, none⟩), .pointer (some ⟨w1.heap.size, 0, none⟩), .pointer (some ⟨w3.heap.size, 0, none⟩), nv 6 [a0, a1, a2, a3, a4, a5], nv 6 [b0, b1], nv 6 [b0, b1], nv 6 [b0, b1], nv 6 [b0, b1, b0, b1, b0, b1], nv 6 [a0, a1, a2, a3, a4, a5, b0, b1, b0, b1, b0, b1], .func (.func 66) #[nv 6 [a0, a1, a2, a3, a4, a5, b0, b1, b0, b1, b0, b1]] #[], undef], []⟩) (v := .func (.func 66) #[nv 6 [a0, a1, a2, a3, a4, a5, b0, b1, b0, b1, b0, b1]] #[]) rfl rfl (ex_bind (vs := [nv 6 [a0, a1, a2, a3, a4, a5, b0, b1, b0, b1, b0, b1]]) rfl) ?_
  refine sq_call (a' := ⟨#[nv 6 [a0, a1, a2, a3, a4, a5], nv 6 [b0, b1], .pointer (some ⟨w.heap.size, 0, none⟩), .pointer (some ⟨w1.heap.size, 0, none⟩), .pointer (some ⟨w3.heap.size, 0, none⟩), nv 6 [a0, a1, a2, a3, a4, a5], nv 6 [b0, b1], nv 6 [b0, b1], nv 6 [b0, b1], nv 6 [b0, b1, b0, b1, b0, b1], nv 6 [a0, a1, a2, a3, a4, a5, b0, b1, b0, b1, b0, b1], .func (.func 66) #[nv 6 [a0, a1, a2, a3, a4, a5, b0, b1, b0, b1, b0, b1]] #[], nv 6 [v0, v1, v2, v3, v4, v5]], []⟩) (v := nv 6 [v0, v1, v2, v3, v4, v5]) rfl rfl (ex_call (vs := [.func (.func 66) #[nv 6 [a0, a1, a2, a3, a4, a5, b0, b1, b0, b1, b0, b1]] #[]]) rfl Try.call43 rfl) (sextall_w _ Try.call66 _ v0 v1 v2 v3 v4 v5 (fun w => coupleproduct_0 a0 a1 a2 a3 a4 a5 b0 b1 b0 b1 b0 b1 v0 v1 hc0 w) (fun w => coupleproduct_1 a0 a1 a2 a3 a4 a5 b0 b1 b0 b1 b0 b1 v2 v3 hc1 w) (fun w => coupleproduct_2 a0 a1 a2 a3 a4 a5 b0 b1 b0 b1 b0 b1 v4 v5 hc2 w) _) ?_
  intro w18 hb18
  have A19 := A14.keep hb18
  have A20 := A15.keep hb18
  have A21 := A16.keep hb18
  have HB22 := below_then HB17 hb18
  refine sq_store (a' := ⟨#[nv 6 [a0, a1, a2, a3, a4, a5], nv 6 [b0, b1], .pointer (some ⟨w.heap.size, 0, none⟩), .pointer (some ⟨w1.heap.size, 0, none⟩), .pointer (some ⟨w3.heap.size, 0, none⟩), nv 6 [a0, a1, a2, a3, a4, a5], nv 6 [b0, b1], nv 6 [b0, b1], nv 6 [b0, b1], nv 6 [b0, b1, b0, b1, b0, b1], nv 6 [a0, a1, a2, a3, a4, a5, b0, b1, b0, b1, b0, b1], .func (.func 66) #[nv 6 [a0, a1, a2, a3, a4, a5, b0, b1, b0, b1, b0, b1]] #[], nv 6 [v0, v1, v2, v3, v4, v5]], []⟩) (t := 28) (xs := rows 6 [0, 0, 0, 0, 0, 0]) (ys := rows 6 [v0, v1, v2, v3, v4, v5]) rfl rfl A21 (len_rows rfl) (ex_storen (K := 6) (l := [0, 0, 0, 0, 0, 0]) (m := [v0, v1, v2, v3, v4, v5]) flFp6 rfl rfl A21 rfl) ?_
  intro w23 N23 hst23 hoth23
  have A24 := hoth23 _ _ _ (Nat.ne_of_lt A4.lt) A19
  have A25 := hoth23 _ _ _ (Nat.ne_of_lt N3.lt) A20
  have HB26 := hst23 _ _ HB22 HB5.size
  refine seq_nil ?_
  exact wp_ret (bodyPost_ret (ret_celln (K := 6) Try.results51 rfl N23 flFp6) rfl ⟨rfl, HB26⟩)

theorem sextClean_r {a0 a1 a2 a3 a4 a5 : Nat} {x0 x1 x2 x3 x4 x5 : Int} (ra0 : Rep a0 x0) (ra1 : Rep a1 x1) (ra2 : Rep a2 x2) (ra3 : Rep a3 x3) (ra4 : Rep a4 x4) (ra5 : Rep a5 x5) (la0 : a0 < fpB) (la1 : a1 < fpB) (la2 : a2 < fpB) (la3 : a3 < fpB) (la4 : a4 < fpB) (la5 : a5 < fpB) {v0 v1 v2 v3 v4 v5 : Nat} (bv0 : v0 < pN) (bv1 : v1 < pN) (bv2 : v2 < pN) (bv3 : v3 < pN) (bv4 : v4 < pN) (bv5 : v5 < pN) (rv0 : Rep v0 (x0)) (rv1 : Rep v1 (x1)) (rv2 : Rep v2 (x2)) (rv3 : Rep v3 (x3)) (rv4 : Rep v4 (x4)) (rv5 : Rep v5 (x5)) (w : World) :
    Calls Try.prog 25 #[nv 6 [a0, a1, a2, a3, a4, a5]] w (Is (nv 6 [v0, v1, v2, v3, v4, v5]) w) :=
  sextClean_w a0 a1 a2 a3 a4 a5 v0 v1 v2 v3 v4 v5 (fun w => duoClean_r ra0 ra1 la0 la1 bv0 bv1 rv0 rv1 w) (fun w => duoClean_r ra2 ra3 la2 la3 bv2 bv3 rv2 rv3 w) (fun w => duoClean_r ra4 ra5 la4 la5 bv4 bv5 rv4 rv5 w) w

theorem sextNeg_r {a0 a1 a2 a3 a4 a5 : Nat} {x0 x1 x2 x3 x4 x5 : Int} (ra0 : Rep a0 x0) (ra1 : Rep a1 x1) (ra2 : Rep a2 x2) (ra3 : Rep a3 x3) (ra4 : Rep a4 x4) (ra5 : Rep a5 x5) (la0 : a0 < fpB) (la1 : a1 < fpB) (la2 : a2 < fpB) (la3 : a3 < fpB) (la4 : a4 < fpB) (la5 : a5 < fpB) {v0 v1 v2 v3 v4 v5 : Nat} (bv0 : v0 < pN) (bv1 : v1 < pN) (bv2 : v2 < pN) (bv3 : v3 < pN) (bv4 : v4 < pN) (bv5 : v5 < pN) (rv0 : Rep v0 (-x0)) (rv1 : Rep v1 (-x1)) (rv2 : Rep v2 (-x2)) (rv3 : Rep v3 (-x3)) (rv4 : Rep v4 (-x4)) (rv5 : Rep v5 (-x5)) (w : World) :
    Calls Try.prog 28 #[nv 6 [a0, a1, a2, a3, a4, a5]] w (Is (nv 6 [v0, v1, v2, v3, v4, v5]) w) :=
  sextNeg_w a0 a1 a2 a3 a4 a5 v0 v1 v2 v3 v4 v5 (fun w => duoNeg_r ra0 ra1 la0 la1 bv0 bv1 rv0 rv1 w) (fun w => duoNeg_r ra2 ra3 la2 la3 bv2 bv3 rv2 rv3 w) (fun w => duoNeg_r ra4 ra5 la4 la5 bv4 bv5 rv4 rv5 w) w

theorem sextAdd_r {a0 a1 a2 a3 a4 a5 b0 b1 b2 b3 b4 b5 : Nat} {x0 x1 x2 x3 x4 x5 y0 y1 y2 y3 y4 y5 : Int} (ra0 : Rep a0 x0) (ra1 : Rep a1 x1) (ra2 : Rep a2 x2) (ra3 : Rep a3 x3) (ra4 : Rep a4 x4) (ra5 : Rep a5 x5) (rb0 : Rep b0 y0) (rb1 : Rep b1 y1) (rb2 : Rep b2 y2) (rb3 : Rep b3 y3) (rb4 : Rep b4 y4) (rb5 : Rep b5 y5) (la0 : a0 < fpB) (la1 : a1 < fpB) (la2 : a2 < fpB) (la3 : a3 < fpB) (la4 : a4 < fpB) (la5 : a5 < fpB) (lb0 : b0 < fpB) (lb1 : b1 < fpB) (lb2 : b2 < fpB) (lb3 : b3 < fpB) (lb4 : b4 < fpB) (lb5 : b5 < fpB) {v0 v1 v2 v3 v4 v5 : Nat} (bv0 : v0 < pN) (bv1 : v1 < pN) (bv2 : v2 < pN) (bv3 : v3 < pN) (bv4 : v4 < pN) (bv5 : v5 < pN) (rv0 : Rep v0 (x0 + y0)) (rv1 : Rep v1 (x1 + y1)) (rv2 : Rep v2 (x2 + y2)) (rv3 : Rep v3 (x3 + y3)) (rv4 : Rep v4 (x4 + y4)) (rv5 : Rep v5 (x5 + y5)) (w : World) :
    Calls Try.prog 26 #[nv 6 [a0, a1, a2, a3, a4, a5], nv 6 [b0, b1, b2, b3, b4, b5]] w (Is (nv 6 [v0, v1, v2, v3, v4, v5]) w) :=
  sextAdd_w a0 a1 a2 a3 a4 a5 b0 b1 b2 b3 b4 b5 v0 v1 v2 v3 v4 v5 (fun w => duoAdd_r ra0 ra1 rb0 rb1 la0 la1 lb0 lb1 bv0 bv1 rv0 rv1 w) (fun w => duoAdd_r ra2 ra3 rb2 rb3 la2 la3 lb2 lb3 bv2 bv3 rv2 rv3 w) (fun w => duoAdd_r ra4 ra5 rb4 rb5 la4 la5 lb4 lb5 bv4 bv5 rv4 rv5 w) w

theorem sextscale_r {a0 a1 a2 a3 a4 a5 b0 b1 : Nat} {x0 x1 x2 x3 x4 x5 y0 y1 : Int} (ra0 : Rep a0 x0) (ra1 : Rep a1 x1) (ra2 : Rep a2 x2) (ra3 : Rep a3 x3) (ra4 : Rep a4 x4) (ra5 : Rep a5 x5) (rb0 : Rep b0 y0) (rb1 : Rep b1 y1) (la0 : a0 < fpB) (la1 : a1 < fpB) (la2 : a2 < fpB) (la3 : a3 < fpB) (la4 : a4 < fpB) (la5 : a5 < fpB) (lb0 : b0 < fpB) (lb1 : b1 < fpB) {v0 v1 v2 v3 v4 v5 : Nat} (bv0 : v0 < pN) (bv1 : v1 < pN) (bv2 : v2 < pN) (bv3 : v3 < pN) (bv4 : v4 < pN) (bv5 : v5 < pN) (rv0 : Rep v0 (x0 * y0 - x1 * y1)) (rv1 : Rep v1 (x0 * y1 + x1 * y0)) (rv2 : Rep v2 (x2 * y0 - x3 * y1)) (rv3 : Rep v3 (x2 * y1 + x3 * y0)) (rv4 : Rep v4 (x4 * y0 - x5 * y1)) (rv5 : Rep v5 (x4 * y1 + x5 * y0)) (w : World) :
    Calls Try.prog 51 #[nv 6 [a0, a1, a2, a3, a4, a5], nv 6 [b0, b1]] w (Is (nv 6 [v0, v1, v2, v3, v4, v5]) w) :=
  sextscale_w a0 a1 a2 a3 a4 a5 b0 b1 v0 v1 v2 v3 v4 v5 (fun w => duoMul_r ra0 ra1 rb0 rb1 la0 la1 lb0 lb1 bv0 bv1 rv0 rv1 w) (fun w => duoMul_r ra2 ra3 rb0 rb1 la2 la3 lb0 lb1 bv2 bv3 rv2 rv3 w) (fun w => duoMul_r ra4 ra5 rb0 rb1 la4 la5 lb0 lb1 bv4 bv5 rv4 rv5 w) w

theorem sextSub_r {a0 a1 a2 a3 a4 a5 b0 b1 b2 b3 b4 b5 : Nat} {x0 x1 x2 x3 x4 x5 y0 y1 y2 y3 y4 y5 : Int} (ra0 : Rep a0 x0) (ra1 : Rep a1 x1) (ra2 : Rep a2 x2) (ra3 : Rep a3 x3) (ra4 : Rep a4 x4) (ra5 : Rep a5 x5) (rb0 : Rep b0 y0) (rb1 : Rep b1 y1) (rb2 : Rep b2 y2) (rb3 : Rep b3 y3) (rb4 : Rep b4 y4) (rb5 : Rep b5 y5) (la0 : a0 < fpB) (la1 : a1 < fpB) (la2 : a2 < fpB) (la3 : a3 < fpB) (la4 : a4 < fpB) (la5 : a5 < fpB) (lb0 : b0 < fpB) (lb1 : b1 < fpB) (lb2 : b2 < fpB) (lb3 : b3 < fpB) (lb4 : b4 < fpB) (lb5 : b5 < fpB) {v0 v1 v2 v3 v4 v5 : Nat} (bv0 : v0 < pN) (bv1 : v1 < pN) (bv2 : v2 < pN) (bv3 : v3 < pN) (bv4 : v4 < pN) (bv5 : v5 < pN) (rv0 : Rep v0 (x0 - y0)) (rv1 : Rep v1 (x1 - y1)) (rv2 : Rep v2 (x2 - y2)) (rv3 : Rep v3 (x3 - y3)) (rv4 : Rep v4 (x4 - y4)) (rv5 : Rep v5 (x5 - y5)) (w : World) :
    Calls Try.prog 32 #[nv 6 [a0, a1, a2, a3, a4, a5], nv 6 [b0, b1, b2, b3, b4, b5]] w (Is (nv 6 [v0, v1, v2, v3, v4, v5]) w) :=
  sextSub_w a0 a1 a2 a3 a4 a5 b0 b1 b2 b3 b4 b5 v0 v1 v2 v3 v4 v5 (fun w => duoSub_r ra0 ra1 rb0 rb1 la0 la1 lb0 lb1 bv0 bv1 rv0 rv1 w) (fun w => duoSub_r ra2 ra3 rb2 rb3 la2 la3 lb2 lb3 bv2 bv3 rv2 rv3 w) (fun w => duoSub_r ra4 ra5 rb4 rb5 la4 la5 lb4 lb5 bv4 bv5 rv4 rv5 w) w

theorem sid0 (x0 x1 : Int) : (x0 + x1 : Int) = x1 - (-x0) := by grind

set_option maxRecDepth 20000 in
set_option maxHeartbeats 4000000 in
theorem sextwrap_r {a0 a1 : Nat} {x0 x1 : Int} (ra0 : Rep a0 x0) (ra1 : Rep a1 x1) (la0 : a0 < fpB) (la1 : a1 < fpB) {v0 v1 : Nat} (bv0 : v0 < pN) (bv1 : v1 < pN) (rv0 : Rep v0 (x0 - x1)) (rv1 : Rep v1 (x0 + x1)) (w : World) :
    Calls Try.prog 52 #[nv 6 [a0, a1]] w (Is (nv 6 [v0, v1]) w) := by
  obtain ⟨z1, bz1, rz1⟩ := rep_of (x1)
  obtain ⟨z2, bz2, rz2⟩ := rep_of (-x0)
  go_enter Try.func52, Try.ntmps52
  refine seq_lit ?_
  refine sq_new (a' := ⟨#[nv 6 [a0, a1], .pointer (some ⟨w.heap.size, 0, none⟩), undef, undef, undef, undef, undef, undef, undef, undef, undef], []⟩) (xs := rows 6 [a0, a1]) rfl rfl (ex_boxn (K := 6) (l := [a0, a1]) rfl) ?_
  intro w1 N1 hb1
  have HB2 := below_then (Below.refl w.heap.size w) hb1
  refine sq_new (a' := ⟨#[nv 6 [a0, a1], .pointer (some ⟨w.heap.size, 0, none⟩), .pointer (some ⟨w1.heap.size, 0, none⟩), undef, undef, undef, undef, undef, undef, undef, undef], []⟩) (xs := rows 6 [0, 0]) rfl rfl (ex_alloc zFp2) ?_
  intro w3 N3 hb3
  have A4 := N1.keep hb3
  have HB5 := below_then HB2 hb3
  refine seq_nil ?_
  refine wp_seq (wp_region_last (F := ⟨#[nv 6 [a0, a1], .pointer (some ⟨w.heap.size, 0, none⟩), .pointer (some ⟨w1.heap.size, 0, none⟩), nv 6 [a0, a1], .pointer (some ⟨w.heap.size, 6, none⟩), nv 6 [a1], .pointer (some ⟨w.heap.size, 0, none⟩), nv 6 [a0], nv 6 [a1, a0], nv 6 [z1, z2], nv 6 [v0, v1]], []⟩) (S := Bel w3) [(3, nv 6 [a0, a1]), (4, .pointer (some ⟨w.heap.size, 6, none⟩)), (5, nv 6 [a1]), (6, .pointer (some ⟨w.heap.size, 0, none⟩)), (7, nv 6 [a0]), (8, nv 6 [a1, a0]), (9, nv 6 [z1, z2]), (10, nv 6 [v0, v1])] 8 _ (by kernel_rfl) (by kernel_rfl) (by kernel_rfl) (by kernel_rfl) rfl rfl (by kernel_rfl) rfl (by simp only [putAll, List.setIfInBounds_toArray, List.set_cons_zero, List.set_cons_succ]) (Bel.start _) ?_ ?_)
  · refine PlanInit.cons (ps_val (v := nv 6 [a0, a1]) rfl rfl rfl (fun W' h => ex_loadn (K := 6) (k := 0) (j := 2) (l := [a0, a1]) flFp2 rfl (A4.keep h.out) rfl _ rfl)) ?_
    refine PlanInit.cons (ps_val (v := .pointer (some ⟨w.heap.size, 6, none⟩)) rfl rfl rfl (fun W' h => ex_field faFp2_1 rfl)) ?_
    refine PlanInit.cons (ps_val (v := nv 6 [a1]) rfl rfl rfl (fun W' h => ex_loadn (K := 6) (k := 1) (j := 1) (l := [a0, a1]) flFp rfl (A4.keep h.out) rfl _ rfl)) ?_
    refine PlanInit.cons (ps_val (v := .pointer (some ⟨w.heap.size, 0, none⟩)) rfl rfl rfl (fun W' h => ex_field faFp2_0 rfl)) ?_
    refine PlanInit.cons (ps_val (v := nv 6 [a0]) rfl rfl rfl (fun W' h => ex_loadn (K := 6) (k := 0) (j := 1) (l := [a0, a1]) flFp rfl (A4.keep h.out) rfl _ rfl)) ?_
    refine PlanInit.cons (ps_val (v := nv 6 [a1, a0]) rfl rfl rfl (fun W' h => ex_build stFp2 (vs := [(0, nv 6 [a1]), (1, nv 6 [a0])]) rfl (bdAB a1 a0))) ?_
    refine PlanInit.cons (ps_call (v := nv 6 [z1, z2]) rfl rfl rfl (fun W' => ex_call (vs := [nv 6 [a1, a0]]) rfl Try.call68 rfl) (fun W' h => duoConj_r ra1 ra0 la1 la0 bz1 bz2 rz1 rz2 _)) ?_
    refine PlanInit.cons (ps_call (v := nv 6 [v0, v1]) rfl rfl rfl (fun W' => ex_call (vs := [nv 6 [a0, a1], nv 6 [z1, z2]]) rfl Try.call67 rfl) (fun W' h => duoSub_r ra0 ra1 rz1 rz2 la0 la1 (Nat.lt_trans bz1 fpM_lt) (Nat.lt_trans bz2 fpM_lt) bv0 bv1 rv0 (rep_to rv1 (sid0 x0 x1)) _)) ?_
    exact PlanInit.one
  refine last_store (t := 26) (xs := rows 6 [0, 0]) (ys := rows 6 [v0, v1]) rfl rfl (fun W' h => N3.keep h.out) (len_rows rfl) (fun W' h => ex_storen (K := 6) (l := [0, 0]) (m := [v0, v1]) flFp2 rfl rfl (N3.keep h.out) rfl) ?_
  intro w7 w8 hb7 N8 hst8 hoth8
  refine then_n ?_
  have A9 := A4.keep hb7.out
  have A10 := N3.keep hb7.out
  have HB11 := below_then HB5 hb7.out
  have A12 := hoth8 _ _ _ (Nat.ne_of_lt N1.lt) A9
  have HB13 := hst8 _ _ HB11 HB2.size
  exact wp_ret (bodyPost_ret (ret_celln (K := 6) Try.results52 rfl N8 flFp2) rfl ⟨rfl, HB13⟩)

theorem sid1 (x4 x5 : Int) : (x4 - x5 : Int) = (x4 - x5) := by grind
theorem sid2 (x4 x5 : Int) : (x4 + x5 : Int) = (x4 + x5) := by grind

set_option maxRecDepth 20000 in
set_option maxHeartbeats 4000000 in
theorem sextShift_r {a0 a1 a2 a3 a4 a5 : Nat} {x0 x1 x2 x3 x4 x5 : Int} (ra0 : Rep a0 x0) (ra1 : Rep a1 x1) (ra2 : Rep a2 x2) (ra3 : Rep a3 x3) (ra4 : Rep a4 x4) (ra5 : Rep a5 x5) (la0 : a0 < fpB) (la1 : a1 < fpB) (la2 : a2 < fpB) (la3 : a3 < fpB) (la4 : a4 < fpB) (la5 : a5 < fpB) {v0 v1 v2 v3 v4 v5 : Nat} (bv0 : v0 < pN) (bv1 : v1 < pN) (bv2 : v2 < pN) (bv3 : v3 < pN) (bv4 : v4 < pN) (bv5 : v5 < pN) (rv0 : Rep v0 (x4 - x5)) (rv1 : Rep v1 (x4 + x5)) (rv2 : Rep v2 (x0)) (rv3 : Rep v3 (x1)) (rv4 : Rep v4 (x2)) (rv5 : Rep v5 (x3)) (w : World) :
    Calls Try.prog 31 #[nv 6 [a0, a1, a2, a3, a4, a5]] w (Is (nv 6 [v0, v1, v2, v3, v4, v5]) w) := by
  go_enter Try.func31, Try.ntmps31
  refine seq_lit ?_
  refine sq_new (a' := ⟨#[nv 6 [a0, a1, a2, a3, a4, a5], .pointer (some ⟨w.heap.size, 0, none⟩), undef, undef, undef, undef, undef, undef, undef, undef, undef, undef], []⟩) (xs := rows 6 [a0, a1, a2, a3, a4, a5]) rfl rfl (ex_boxn (K := 6) (l := [a0, a1, a2, a3, a4, a5]) rfl) ?_
  intro w1 N1 hb1
  have HB2 := below_then (Below.refl w.heap.size w) hb1
  refine sq_new (a' := ⟨#[nv 6 [a0, a1, a2, a3, a4, a5], .pointer (some ⟨w.heap.size, 0, none⟩), .pointer (some ⟨w1.heap.size, 0, none⟩), undef, undef, undef, undef, undef, undef, undef, undef, undef], []⟩) (xs := rows 6 [0, 0, 0, 0, 0, 0]) rfl rfl (ex_alloc zFp6) ?_
  intro w3 N3 hb3
  have A4 := N1.keep hb3
  have HB5 := below_then HB2 hb3
  refine seq_nil ?_
  refine wp_seq (wp_region_last (F := ⟨#[nv 6 [a0, a1, a2, a3, a4, a5], .pointer (some ⟨w.heap.size, 0, none⟩), .pointer (some ⟨w1.heap.size, 0, none⟩), .pointer (some ⟨w.heap.size, 24, none⟩), nv 6 [a4, a5], nv 6 [v0, v1], .pointer (some ⟨w.heap.size, 0, none⟩), nv 6 [a0, a1], .pointer (some ⟨w.heap.size, 12, none⟩), nv 6 [a2, a3], nv 6 [v0, v1, a0, a1, a2, a3], nv 6 [v0, v1, v2, v3, v4, v5]], []⟩) (S := Bel w3) [(3, .pointer (some ⟨w.heap.size, 24, none⟩)), (4, nv 6 [a4, a5]), (5, nv 6 [v0, v1]), (6, .pointer (some ⟨w.heap.size, 0, none⟩)), (7, nv 6 [a0, a1]), (8, .pointer (some ⟨w.heap.size, 12, none⟩)), (9, nv 6 [a2, a3]), (10, nv 6 [v0, v1, a0, a1, a2, a3]), (11, nv 6 [v0, v1, v2, v3, v4, v5])] 9 _ (by kernel_rfl) (by kernel_rfl) (by kernel_rfl) (by kernel_rfl) rfl rfl (by kernel_rfl) rfl (by simp only [putAll, List.setIfInBounds_toArray, List.set_cons_zero, List.set_cons_succ]) (Bel.start _) ?_ ?_)
  · refine PlanInit.cons (ps_val (v := .pointer (some ⟨w.heap.size, 24, none⟩)) rfl rfl rfl (fun W' h => ex_field faFp6_2 rfl)) ?_
    refine PlanInit.cons (ps_val (v := nv 6 [a4, a5]) rfl rfl rfl (fun W' h => ex_loadn (K := 6) (k := 4) (j := 2) (l := [a0, a1, a2, a3, a4, a5]) flFp2 rfl (A4.keep h.out) rfl _ rfl)) ?_
    refine PlanInit.cons (ps_call (v := nv 6 [v0, v1]) rfl rfl rfl (fun W' => ex_call (vs := [nv 6 [a4, a5]]) rfl Try.call52 rfl) (fun W' h => sextwrap_r ra4 ra5 la4 la5 bv0 bv1 rv0 rv1 _)) ?_
    refine PlanInit.cons (ps_val (v := .pointer (some ⟨w.heap.size, 0, none⟩)) rfl rfl rfl (fun W' h => ex_field faFp6_0 rfl)) ?_
    refine PlanInit.cons (ps_val (v := nv 6 [a0, a1]) rfl rfl rfl (fun W' h => ex_loadn (K := 6) (k := 0) (j := 2) (l := [a0, a1, a2, a3, a4, a5]) flFp2 rfl (A4.keep h.out) rfl _ rfl)) ?_
    refine PlanInit.cons (ps_val (v := .pointer (some ⟨w.heap.size, 12, none⟩)) rfl rfl rfl (fun W' h => ex_field faFp6_1 rfl)) ?_
    refine PlanInit.cons (ps_val (v := nv 6 [a2, a3]) rfl rfl rfl (fun W' h => ex_loadn (K := 6) (k := 2) (j := 2) (l := [a0, a1, a2, a3, a4, a5]) flFp2 rfl (A4.keep h.out) rfl _ rfl)) ?_
    refine PlanInit.cons (ps_val (v := nv 6 [v0, v1, a0, a1, a2, a3]) rfl rfl rfl (fun W' h => ex_build stFp6 (vs := [(0, nv 6 [v0, v1]), (1, nv 6 [a0, a1]), (2, nv 6 [a2, a3])]) rfl (bdABC v0 v1 a0 a1 a2 a3))) ?_
    refine PlanInit.cons (ps_call (v := nv 6 [v0, v1, v2, v3, v4, v5]) rfl rfl rfl (fun W' => ex_call (vs := [nv 6 [v0, v1, a0, a1, a2, a3]]) rfl Try.call25 rfl) (fun W' h => sextClean_r rv0 rv1 ra0 ra1 ra2 ra3 (Nat.lt_trans bv0 fpM_lt) (Nat.lt_trans bv1 fpM_lt) la0 la1 la2 la3 bv0 bv1 bv2 bv3 bv4 bv5 (rep_to rv0 (sid1 x4 x5)) (rep_to rv1 (sid2 x4 x5)) rv2 rv3 rv4 rv5 _)) ?_
    exact PlanInit.one
  refine last_store (t := 28) (xs := rows 6 [0, 0, 0, 0, 0, 0]) (ys := rows 6 [v0, v1, v2, v3, v4, v5]) rfl rfl (fun W' h => N3.keep h.out) (len_rows rfl) (fun W' h => ex_storen (K := 6) (l := [0, 0, 0, 0, 0, 0]) (m := [v0, v1, v2, v3, v4, v5]) flFp6 rfl rfl (N3.keep h.out) rfl) ?_
  intro w7 w8 hb7 N8 hst8 hoth8
  refine then_n ?_
  have A9 := A4.keep hb7.out
  have A10 := N3.keep hb7.out
  have HB11 := below_then HB5 hb7.out
  have A12 := hoth8 _ _ _ (Nat.ne_of_lt N1.lt) A9
  have HB13 := hst8 _ _ HB11 HB2.size
  exact wp_ret (bodyPost_ret (ret_celln (K := 6) Try.results31 rfl N8 flFp6) rfl ⟨rfl, HB13⟩)

theorem sid3 (y4 y5 : Int) : (y4 - y5 : Int) = (y4 - y5) := by grind
theorem sid4 (y4 y5 : Int) : (y4 + y5 : Int) = (y4 + y5) := by grind
theorem sid5 (x0 x1 y0 y1 : Int) : (x0 * y0 - x1 * y1 : Int) = y0 * x0 - y1 * x1 := by grind
theorem sid6 (x0 x1 y0 y1 : Int) : (x0 * y1 + x1 * y0 : Int) = y0 * x1 + y1 * x0 := by grind
theorem sid7 (x0 x1 y2 y3 : Int) : (x0 * y2 - x1 * y3 : Int) = y2 * x0 - y3 * x1 := by grind
theorem sid8 (x0 x1 y2 y3 : Int) : (x0 * y3 + x1 * y2 : Int) = y2 * x1 + y3 * x0 := by grind
theorem sid9 (x0 x1 y4 y5 : Int) : (x0 * y4 - x1 * y5 : Int) = y4 * x0 - y5 * x1 := by grind
theorem sid10 (x0 x1 y4 y5 : Int) : (x0 * y5 + x1 * y4 : Int) = y4 * x1 + y5 * x0 := by grind
theorem sid11 (x2 x3 y4 y5 : Int) : (x2 * y4 - x2 * y5 - x3 * y4 - x3 * y5 : Int) = (y4 - y5) * x2 - (y4 + y5) * x3 := by grind
theorem sid12 (x2 x3 y4 y5 : Int) : (x2 * y4 + x2 * y5 + x3 * y4 - x3 * y5 : Int) = (y4 - y5) * x3 + (y4 + y5) * x2 := by grind
theorem sid13 (x2 x3 y0 y1 : Int) : (x2 * y0 - x3 * y1 : Int) = y0 * x2 - y1 * x3 := by grind
theorem sid14 (x2 x3 y0 y1 : Int) : (x2 * y1 + x3 * y0 : Int) = y0 * x3 + y1 * x2 := by grind
theorem sid15 (x2 x3 y2 y3 : Int) : (x2 * y2 - x3 * y3 : Int) = y2 * x2 - y3 * x3 := by grind
theorem sid16 (x2 x3 y2 y3 : Int) : (x2 * y3 + x3 * y2 : Int) = y2 * x3 + y3 * x2 := by grind
theorem sid17 (x4 x5 y2 y3 : Int) : (x4 * y2 - x4 * y3 - x5 * y2 - x5 * y3 : Int) = (y2 - y3) * x4 - (y2 + y3) * x5 := by grind
theorem sid18 (x4 x5 y2 y3 : Int) : (x4 * y2 + x4 * y3 + x5 * y2 - x5 * y3 : Int) = (y2 - y3) * x5 + (y2 + y3) * x4 := by grind
theorem sid19 (x4 x5 y4 y5 : Int) : (x4 * y4 - x4 * y5 - x5 * y4 - x5 * y5 : Int) = (y4 - y5) * x4 - (y4 + y5) * x5 := by grind
theorem sid20 (x4 x5 y4 y5 : Int) : (x4 * y4 + x4 * y5 + x5 * y4 - x5 * y5 : Int) = (y4 - y5) * x5 + (y4 + y5) * x4 := by grind
theorem sid21 (x4 x5 y0 y1 : Int) : (x4 * y0 - x5 * y1 : Int) = y0 * x4 - y1 * x5 := by grind
theorem sid22 (x4 x5 y0 y1 : Int) : (x4 * y1 + x5 * y0 : Int) = y0 * x5 + y1 * x4 := by grind
theorem sid23 (x2 x3 x4 x5 y2 y3 y4 y5 : Int) : (x2 * y4 + x4 * y2 - x2 * y5 - x3 * y4 - x3 * y5 - x4 * y3 - x5 * y2 - x5 * y3 : Int) = (x2 * y4 - x2 * y5 - x3 * y4 - x3 * y5) + (x4 * y2 - x4 * y3 - x5 * y2 - x5 * y3) := by grind
theorem sid24 (x2 x3 x4 x5 y2 y3 y4 y5 : Int) : (x2 * y4 + x2 * y5 + x3 * y4 + x4 * y2 + x4 * y3 + x5 * y2 - x3 * y5 - x5 * y3 : Int) = (x2 * y4 + x2 * y5 + x3 * y4 - x3 * y5) + (x4 * y2 + x4 * y3 + x5 * y2 - x5 * y3) := by grind
theorem sid25 (x2 x3 x4 x5 y0 y1 y4 y5 : Int) : (x2 * y0 + x4 * y4 - x3 * y1 - x4 * y5 - x5 * y4 - x5 * y5 : Int) = (x2 * y0 - x3 * y1) + (x4 * y4 - x4 * y5 - x5 * y4 - x5 * y5) := by grind
theorem sid26 (x2 x3 x4 x5 y0 y1 y4 y5 : Int) : (x2 * y1 + x3 * y0 + x4 * y4 + x4 * y5 + x5 * y4 - x5 * y5 : Int) = (x2 * y1 + x3 * y0) + (x4 * y4 + x4 * y5 + x5 * y4 - x5 * y5) := by grind
theorem sid27 (x2 x3 x4 x5 y0 y1 y2 y3 : Int) : (x2 * y2 + x4 * y0 - x3 * y3 - x5 * y1 : Int) = (x2 * y2 - x3 * y3) + (x4 * y0 - x5 * y1) := by grind
theorem sid28 (x2 x3 x4 x5 y0 y1 y2 y3 : Int) : (x2 * y3 + x3 * y2 + x4 * y1 + x5 * y0 : Int) = (x2 * y3 + x3 * y2) + (x4 * y1 + x5 * y0) := by grind
theorem sid29 (x0 x1 x2 x3 x4 x5 y0 y1 y2 y3 y4 y5 : Int) : (x0 * y0 + x2 * y4 + x4 * y2 - x1 * y1 - x2 * y5 - x3 * y4 - x3 * y5 - x4 * y3 - x5 * y2 - x5 * y3 : Int) = (x0 * y0 - x1 * y1) + (x2 * y4 + x4 * y2 - x2 * y5 - x3 * y4 - x3 * y5 - x4 * y3 - x5 * y2 - x5 * y3) := by grind
theorem sid30 (x0 x1 x2 x3 x4 x5 y0 y1 y2 y3 y4 y5 : Int) : (x0 * y1 + x1 * y0 + x2 * y4 + x2 * y5 + x3 * y4 + x4 * y2 + x4 * y3 + x5 * y2 - x3 * y5 - x5 * y3 : Int) = (x0 * y1 + x1 * y0) + (x2 * y4 + x2 * y5 + x3 * y4 + x4 * y2 + x4 * y3 + x5 * y2 - x3 * y5 - x5 * y3) := by grind
theorem sid31 (x0 x1 x2 x3 x4 x5 y0 y1 y2 y3 y4 y5 : Int) : (x0 * y2 + x2 * y0 + x4 * y4 - x1 * y3 - x3 * y1 - x4 * y5 - x5 * y4 - x5 * y5 : Int) = (x0 * y2 - x1 * y3) + (x2 * y0 + x4 * y4 - x3 * y1 - x4 * y5 - x5 * y4 - x5 * y5) := by grind
theorem sid32 (x0 x1 x2 x3 x4 x5 y0 y1 y2 y3 y4 y5 : Int) : (x0 * y3 + x1 * y2 + x2 * y1 + x3 * y0 + x4 * y4 + x4 * y5 + x5 * y4 - x5 * y5 : Int) = (x0 * y3 + x1 * y2) + (x2 * y1 + x3 * y0 + x4 * y4 + x4 * y5 + x5 * y4 - x5 * y5) := by grind
theorem sid33 (x0 x1 x2 x3 x4 x5 y0 y1 y2 y3 y4 y5 : Int) : (x0 * y4 + x2 * y2 + x4 * y0 - x1 * y5 - x3 * y3 - x5 * y1 : Int) = (x0 * y4 - x1 * y5) + (x2 * y2 + x4 * y0 - x3 * y3 - x5 * y1) := by grind
theorem sid34 (x0 x1 x2 x3 x4 x5 y0 y1 y2 y3 y4 y5 : Int) : (x0 * y5 + x1 * y4 + x2 * y3 + x3 * y2 + x4 * y1 + x5 * y0 : Int) = (x0 * y5 + x1 * y4) + (x2 * y3 + x3 * y2 + x4 * y1 + x5 * y0) := by grind

set_option maxRecDepth 20000 in
set_option maxHeartbeats 4000000 in
theorem sextMul_r {a0 a1 a2 a3 a4 a5 b0 b1 b2 b3 b4 b5 : Nat} {x0 x1 x2 x3 x4 x5 y0 y1 y2 y3 y4 y5 : Int} (ra0 : Rep a0 x0) (ra1 : Rep a1 x1) (ra2 : Rep a2 x2) (ra3 : Rep a3 x3) (ra4 : Rep a4 x4) (ra5 : Rep a5 x5) (rb0 : Rep b0 y0) (rb1 : Rep b1 y1) (rb2 : Rep b2 y2) (rb3 : Rep b3 y3) (rb4 : Rep b4 y4) (rb5 : Rep b5 y5) (la0 : a0 < fpB) (la1 : a1 < fpB) (la2 : a2 < fpB) (la3 : a3 < fpB) (la4 : a4 < fpB) (la5 : a5 < fpB) (lb0 : b0 < fpB) (lb1 : b1 < fpB) (lb2 : b2 < fpB) (lb3 : b3 < fpB) (lb4 : b4 < fpB) (lb5 : b5 < fpB) {v0 v1 v2 v3 v4 v5 : Nat} (bv0 : v0 < pN) (bv1 : v1 < pN) (bv2 : v2 < pN) (bv3 : v3 < pN) (bv4 : v4 < pN) (bv5 : v5 < pN) (rv0 : Rep v0 (x0 * y0 + x2 * y4 + x4 * y2 - x1 * y1 - x2 * y5 - x3 * y4 - x3 * y5 - x4 * y3 - x5 * y2 - x5 * y3)) (rv1 : Rep v1 (x0 * y1 + x1 * y0 + x2 * y4 + x2 * y5 + x3 * y4 + x4 * y2 + x4 * y3 + x5 * y2 - x3 * y5 - x5 * y3)) (rv2 : Rep v2 (x0 * y2 + x2 * y0 + x4 * y4 - x1 * y3 - x3 * y1 - x4 * y5 - x5 * y4 - x5 * y5)) (rv3 : Rep v3 (x0 * y3 + x1 * y2 + x2 * y1 + x3 * y0 + x4 * y4 + x4 * y5 + x5 * y4 - x5 * y5)) (rv4 : Rep v4 (x0 * y4 + x2 * y2 + x4 * y0 - x1 * y5 - x3 * y3 - x5 * y1)) (rv5 : Rep v5 (x0 * y5 + x1 * y4 + x2 * y3 + x3 * y2 + x4 * y1 + x5 * y0)) (w : World) :
    Calls Try.prog 30 #[nv 6 [a0, a1, a2, a3, a4, a5], nv 6 [b0, b1, b2, b3, b4, b5]] w (Is (nv 6 [v0, v1, v2, v3, v4, v5]) w) := by
  obtain ⟨z1, bz1, rz1⟩ := rep_of (y4 - y5)
  obtain ⟨z2, bz2, rz2⟩ := rep_of (y4 + y5)
  obtain ⟨z3, bz3, rz3⟩ := rep_of (y0)
  obtain ⟨z4, bz4, rz4⟩ := rep_of (y1)
  obtain ⟨z5, bz5, rz5⟩ := rep_of (y2)
  obtain ⟨z6, bz6, rz6⟩ := rep_of (y3)
  obtain ⟨z7, bz7, rz7⟩ := rep_of (y2 - y3)
  obtain ⟨z8, bz8, rz8⟩ := rep_of (y2 + y3)
  obtain ⟨z9, bz9, rz9⟩ := rep_of (x0 * y0 - x1 * y1)
  obtain ⟨z10, bz10, rz10⟩ := rep_of (x0 * y1 + x1 * y0)
  obtain ⟨z11, bz11, rz11⟩ := rep_of (x0 * y2 - x1 * y3)
  obtain ⟨z12, bz12, rz12⟩ := rep_of (x0 * y3 + x1 * y2)
  obtain ⟨z13, bz13, rz13⟩ := rep_of (x0 * y4 - x1 * y5)
  obtain ⟨z14, bz14, rz14⟩ := rep_of (x0 * y5 + x1 * y4)
  obtain ⟨z15, bz15, rz15⟩ := rep_of (x2 * y4 - x2 * y5 - x3 * y4 - x3 * y5)
  obtain ⟨z16, bz16, rz16⟩ := rep_of (x2 * y4 + x2 * y5 + x3 * y4 - x3 * y5)
  obtain ⟨z17, bz17, rz17⟩ := rep_of (x2 * y0 - x3 * y1)
  obtain ⟨z18, bz18, rz18⟩ := rep_of (x2 * y1 + x3 * y0)
  obtain ⟨z19, bz19, rz19⟩ := rep_of (x2 * y2 - x3 * y3)
  obtain ⟨z20, bz20, rz20⟩ := rep_of (x2 * y3 + x3 * y2)
  obtain ⟨z21, bz21, rz21⟩ := rep_of (x4 * y2 - x4 * y3 - x5 * y2 - x5 * y3)
  obtain ⟨z22, bz22, rz22⟩ := rep_of (x4 * y2 + x4 * y3 + x5 * y2 - x5 * y3)
  obtain ⟨z23, bz23, rz23⟩ := rep_of (x4 * y4 - x4 * y5 - x5 * y4 - x5 * y5)
  obtain ⟨z24, bz24, rz24⟩ := rep_of (x4 * y4 + x4 * y5 + x5 * y4 - x5 * y5)
  obtain ⟨z25, bz25, rz25⟩ := rep_of (x4 * y0 - x5 * y1)
  obtain ⟨z26, bz26, rz26⟩ := rep_of (x4 * y1 + x5 * y0)
  obtain ⟨z27, bz27, rz27⟩ := rep_of (x2 * y4 + x4 * y2 - x2 * y5 - x3 * y4 - x3 * y5 - x4 * y3 - x5 * y2 - x5 * y3)
  obtain ⟨z28, bz28, rz28⟩ := rep_of (x2 * y4 + x2 * y5 + x3 * y4 + x4 * y2 + x4 * y3 + x5 * y2 - x3 * y5 - x5 * y3)
  obtain ⟨z29, bz29, rz29⟩ := rep_of (x2 * y0 + x4 * y4 - x3 * y1 - x4 * y5 - x5 * y4 - x5 * y5)
  obtain ⟨z30, bz30, rz30⟩ := rep_of (x2 * y1 + x3 * y0 + x4 * y4 + x4 * y5 + x5 * y4 - x5 * y5)
  obtain ⟨z31, bz31, rz31⟩ := rep_of (x2 * y2 + x4 * y0 - x3 * y3 - x5 * y1)
  obtain ⟨z32, bz32, rz32⟩ := rep_of (x2 * y3 + x3 * y2 + x4 * y1 + x5 * y0)
  go_enter Try.func30, Try.ntmps30
  refine seq_lit ?_
  refine sq_new (a' := ⟨#[nv 6 [a0, a1, a2, a3, a4, a5], nv 6 [b0, b1, b2, b3, b4, b5], .pointer (some ⟨w.heap.size, 0, none⟩), undef, undef, undef, undef, undef, undef, undef, undef, undef, undef, undef, undef, undef, undef, undef, undef, undef, undef, undef, undef, undef, undef], []⟩) (xs := rows 6 [a0, a1, a2, a3, a4, a5]) rfl rfl (ex_boxn (K := 6) (l := [a0, a1, a2, a3, a4, a5]) rfl) ?_
  intro w1 N1 hb1
  have HB2 := below_then (Below.refl w.heap.size w) hb1
  refine sq_new (a' := ⟨#[nv 6 [a0, a1, a2, a3, a4, a5], nv 6 [b0, b1, b2, b3, b4, b5], .pointer (some ⟨w.heap.size, 0, none⟩), .pointer (some ⟨w1.heap.size, 0, none⟩), undef, undef, undef, undef, undef, undef, undef, undef, undef, undef, undef, undef, undef, undef, undef, undef, undef, undef, undef, undef, undef], []⟩) (xs := rows 6 [b0, b1, b2, b3, b4, b5]) rfl rfl (ex_boxn (K := 6) (l := [b0, b1, b2, b3, b4, b5]) rfl) ?_
  intro w3 N3 hb3
  have A4 := N1.keep hb3
  have HB5 := below_then HB2 hb3
  refine sq_new (a' := ⟨#[nv 6 [a0, a1, a2, a3, a4, a5], nv 6 [b0, b1, b2, b3, b4, b5], .pointer (some ⟨w.heap.size, 0, none⟩), .pointer (some ⟨w1.heap.size, 0, none⟩), .pointer (some ⟨w3.heap.size, 0, none⟩), undef, undef, undef, undef, undef, undef, undef, undef, undef, undef, undef, undef, undef, undef, undef, undef, undef, undef, undef, undef], []⟩) (xs := rows 6 [0, 0, 0, 0, 0, 0]) rfl rfl (ex_alloc zFp6) ?_
  intro w7 N7 hb7
  have A8 := A4.keep hb7
  have A9 := N3.keep hb7
  have HB10 := below_then HB5 hb7
  refine seq_nil ?_
  refine seq_lit ?_
  refine sq_val (a' := ⟨#[nv 6 [a0, a1, a2, a3, a4, a5], nv 6 [b0, b1, b2, b3, b4, b5], .pointer (some ⟨w.heap.size, 0, none⟩), .pointer (some ⟨w1.heap.size, 0, none⟩), .pointer (some ⟨w3.heap.size, 0, none⟩), undef, undef, nv 6 [b0, b1, b2, b3, b4, b5], undef, undef, undef, undef, undef, undef, undef, undef, undef, undef, undef, undef, undef, undef, undef, undef, undef], []⟩) (v := nv 6 [b0, b1, b2, b3, b4, b5]) rfl rfl (ex_loadn (K := 6) (k := 0) (j := 6) (l := [b0, b1, b2, b3, b4, b5]) flFp6 rfl A9 rfl _ rfl) ?_
  refine sq_call (a' := ⟨#[nv 6 [a0, a1, a2, a3, a4, a5], nv 6 [b0, b1, b2, b3, b4, b5], .pointer (some ⟨w.heap.size, 0, none⟩), .pointer (some ⟨w1.heap.size, 0, none⟩), .pointer (some ⟨w3.heap.size, 0, none⟩), undef, undef, nv 6 [b0, b1, b2, b3, b4, b5], nv 6 [z1, z2, z3, z4, z5, z6], undef, undef, undef, undef, undef, undef, undef, undef, undef, undef, undef, undef, undef, undef, undef, undef], []⟩) (v := nv 6 [z1, z2, z3, z4, z5, z6]) rfl rfl (ex_call (vs := [nv 6 [b0, b1, b2, b3, b4, b5]]) rfl Try.call31 rfl) (sextShift_r rb0 rb1 rb2 rb3 rb4 rb5 lb0 lb1 lb2 lb3 lb4 lb5 bz1 bz2 bz3 bz4 bz5 bz6 rz1 rz2 rz3 rz4 rz5 rz6 _) ?_
  intro w13 hb13
  have A14 := A8.keep hb13
  have A15 := A9.keep hb13
  have A16 := N7.keep hb13
  have HB17 := below_then HB10 hb13
  refine sq_new (a' := ⟨#[nv 6 [a0, a1, a2, a3, a4, a5], nv 6 [b0, b1, b2, b3, b4, b5], .pointer (some ⟨w.heap.size, 0, none⟩), .pointer (some ⟨w1.heap.size, 0, none⟩), .pointer (some ⟨w3.heap.size, 0, none⟩), .pointer (some ⟨w13.heap.size, 0, none⟩), undef, nv 6 [b0, b1, b2, b3, b4, b5], nv 6 [z1, z2, z3, z4, z5, z6], undef, undef, undef, undef, undef, undef, undef, undef, undef, undef, undef, undef, undef, undef, undef, undef], []⟩) (xs := rows 6 [0, 0, 0, 0, 0, 0]) rfl rfl (ex_alloc zFp6) ?_
  intro w18 N18 hb18
  have A19 := A14.keep hb18
  have A20 := A15.keep hb18
  have A21 := A16.keep hb18
  have HB22 := below_then HB17 hb18
  refine sq_store (a' := ⟨#[nv 6 [a0, a1, a2, a3, a4, a5], nv 6 [b0, b1, b2, b3, b4, b5], .pointer (some ⟨w.heap.size, 0, none⟩), .pointer (some ⟨w1.heap.size, 0, none⟩), .pointer (some ⟨w3.heap.size, 0, none⟩), .pointer (some ⟨w13.heap.size, 0, none⟩), undef, nv 6 [b0, b1, b2, b3, b4, b5], nv 6 [z1, z2, z3, z4, z5, z6], undef, undef, undef, undef, undef, undef, undef, undef, undef, undef, undef, undef, undef, undef, undef, undef], []⟩) (t := 28) (xs := rows 6 [0, 0, 0, 0, 0, 0]) (ys := rows 6 [z1, z2, z3, z4, z5, z6]) rfl rfl N18 (len_rows rfl) (ex_storen (K := 6) (l := [0, 0, 0, 0, 0, 0]) (m := [z1, z2, z3, z4, z5, z6]) flFp6 rfl rfl N18 rfl) ?_
  intro w26 N26 hst26 hoth26
  have A27 := hoth26 _ _ _ (Nat.ne_of_lt A14.lt) A19
  have A28 := hoth26 _ _ _ (Nat.ne_of_lt A15.lt) A20
  have A29 := hoth26 _ _ _ (Nat.ne_of_lt A16.lt) A21
  have HB30 := hst26 _ _ HB22 HB17.size
  refine seq_nil ?_
  refine seq_lit ?_
  refine sq_val (a' := ⟨#[nv 6 [a0, a1, a2, a3, a4, a5], nv 6 [b0, b1, b2, b3, b4, b5], .pointer (some ⟨w.heap.size, 0, none⟩), .pointer (some ⟨w1.heap.size, 0, none⟩), .pointer (some ⟨w3.heap.size, 0, none⟩), .pointer (some ⟨w13.heap.size, 0, none⟩), undef, nv 6 [b0, b1, b2, b3, b4, b5], nv 6 [z1, z2, z3, z4, z5, z6], nv 6 [z1, z2, z3, z4, z5, z6], undef, undef, undef, undef, undef, undef, undef, undef, undef, undef, undef, undef, undef, undef, undef], []⟩) (v := nv 6 [z1, z2, z3, z4, z5, z6]) rfl rfl (ex_loadn (K := 6) (k := 0) (j := 6) (l := [z1, z2, z3, z4, z5, z6]) flFp6 rfl N26 rfl _ rfl) ?_
  refine sq_call (a' := ⟨#[nv 6 [a0, a1, a2, a3, a4, a5], nv 6 [b0, b1, b2, b3, b4, b5], .pointer (some ⟨w.heap.size, 0, none⟩), .pointer (some ⟨w1.heap.size, 0, none⟩), .pointer (some ⟨w3.heap.size, 0, none⟩), .pointer (some ⟨w13.heap.size, 0, none⟩), undef, nv 6 [b0, b1, b2, b3, b4, b5], nv 6 [z1, z2, z3, z4, z5, z6], nv 6 [z1, z2, z3, z4, z5, z6], nv 6 [z7, z8, z1, z2, z3, z4], undef, undef, undef, undef, undef, undef, undef, undef, undef, undef, undef, undef, undef, undef], []⟩) (v := nv 6 [z7, z8, z1, z2, z3, z4]) rfl rfl (ex_call (vs := [nv 6 [z1, z2, z3, z4, z5, z6]]) rfl Try.call31 rfl) (sextShift_r rz1 rz2 rz3 rz4 rz5 rz6 (Nat.lt_trans bz1 fpM_lt) (Nat.lt_trans bz2 fpM_lt) (Nat.lt_trans bz3 fpM_lt) (Nat.lt_trans bz4 fpM_lt) (Nat.lt_trans bz5 fpM_lt) (Nat.lt_trans bz6 fpM_lt) bz7 bz8 bz1 bz2 bz3 bz4 rz7 rz8 (rep_to rz1 (sid3 y4 y5)) (rep_to rz2 (sid4 y4 y5)) rz3 rz4 _) ?_
  intro w31 hb31
  have A32 := A27.keep hb31
  have A33 := A28.keep hb31
  have A34 := A29.keep hb31
  have A35 := N26.keep hb31
  have HB36 := below_then HB30 hb31
  refine sq_new (a' := ⟨#[nv 6 [a0, a1, a2, a3, a4, a5], nv 6 [b0, b1, b2, b3, b4, b5], .pointer (some ⟨w.heap.size, 0, none⟩), .pointer (some ⟨w1.heap.size, 0, none⟩), .pointer (some ⟨w3.heap.size, 0, none⟩), .pointer (some ⟨w13.heap.size, 0, none⟩), .pointer (some ⟨w31.heap.size, 0, none⟩), nv 6 [b0, b1, b2, b3, b4, b5], nv 6 [z1, z2, z3, z4, z5, z6], nv 6 [z1, z2, z3, z4, z5, z6], nv 6 [z7, z8, z1, z2, z3, z4], undef, undef, undef, undef, undef, undef, undef, undef, undef, undef, undef, undef, undef, undef], []⟩) (xs := rows 6 [0, 0, 0, 0, 0, 0]) rfl rfl (ex_alloc zFp6) ?_
  intro w37 N37 hb37
  have A38 := A32.keep hb37
  have A39 := A33.keep hb37
  have A40 := A34.keep hb37
  have A41 := A35.keep hb37
  have HB42 := below_then HB36 hb37
  refine sq_store (a' := ⟨#[nv 6 [a0, a1, a2, a3, a4, a5], nv 6 [b0, b1, b2, b3, b4, b5], .pointer (some ⟨w.heap.size, 0, none⟩), .pointer (some ⟨w1.heap.size, 0, none⟩), .pointer (some ⟨w3.heap.size, 0, none⟩), .pointer (some ⟨w13.heap.size, 0, none⟩), .pointer (some ⟨w31.heap.size, 0, none⟩), nv 6 [b0, b1, b2, b3, b4, b5], nv 6 [z1, z2, z3, z4, z5, z6], nv 6 [z1, z2, z3, z4, z5, z6], nv 6 [z7, z8, z1, z2, z3, z4], undef, undef, undef, undef, undef, undef, undef, undef, undef, undef, undef, undef, undef, undef], []⟩) (t := 28) (xs := rows 6 [0, 0, 0, 0, 0, 0]) (ys := rows 6 [z7, z8, z1, z2, z3, z4]) rfl rfl N37 (len_rows rfl) (ex_storen (K := 6) (l := [0, 0, 0, 0, 0, 0]) (m := [z7, z8, z1, z2, z3, z4]) flFp6 rfl rfl N37 rfl) ?_
  intro w47 N47 hst47 hoth47
  have A48 := hoth47 _ _ _ (Nat.ne_of_lt A32.lt) A38
  have A49 := hoth47 _ _ _ (Nat.ne_of_lt A33.lt) A39
  have A50 := hoth47 _ _ _ (Nat.ne_of_lt A34.lt) A40
  have A51 := hoth47 _ _ _ (Nat.ne_of_lt A35.lt) A41
  have HB52 := hst47 _ _ HB42 HB36.size
  refine seq_nil ?_
  refine wp_seq (wp_region_last (F := ⟨#[nv 6 [a0, a1, a2, a3, a4, a5], nv 6 [b0, b1, b2, b3, b4, b5], .pointer (some ⟨w.heap.size, 0, none⟩), .pointer (some ⟨w1.heap.size, 0, none⟩), .pointer (some ⟨w3.heap.size, 0, none⟩), .pointer (some ⟨w13.heap.size, 0, none⟩), .pointer (some ⟨w31.heap.size, 0, none⟩), nv 6 [b0, b1, b2, b3, b4, b5], nv 6 [z1, z2, z3, z4, z5, z6], nv 6 [z1, z2, z3, z4, z5, z6], nv 6 [z7, z8, z1, z2, z3, z4], nv 6 [b0, b1, b2, b3, b4, b5], .pointer (some ⟨w.heap.size, 0, none⟩), nv 6 [a0, a1], nv 6 [z9, z10, z11, z12, z13, z14], nv 6 [z1, z2, z3, z4, z5, z6], .pointer (some ⟨w.heap.size, 12, none⟩), nv 6 [a2, a3], nv 6 [z15, z16, z17, z18, z19, z20], nv 6 [z7, z8, z1, z2, z3, z4], .pointer (some ⟨w.heap.size, 24, none⟩), nv 6 [a4, a5], nv 6 [z21, z22, z23, z24, z25, z26], nv 6 [z27, z28, z29, z30, z31, z32], nv 6 [v0, v1, v2, v3, v4, v5]], []⟩) (S := Bel w47) [(11, nv 6 [b0, b1, b2, b3, b4, b5]), (12, .pointer (some ⟨w.heap.size, 0, none⟩)), (13, nv 6 [a0, a1]), (14, nv 6 [z9, z10, z11, z12, z13, z14]), (15, nv 6 [z1, z2, z3, z4, z5, z6]), (16, .pointer (some ⟨w.heap.size, 12, none⟩)), (17, nv 6 [a2, a3]), (18, nv 6 [z15, z16, z17, z18, z19, z20]), (19, nv 6 [z7, z8, z1, z2, z3, z4]), (20, .pointer (some ⟨w.heap.size, 24, none⟩)), (21, nv 6 [a4, a5]), (22, nv 6 [z21, z22, z23, z24, z25, z26]), (23, nv 6 [z27, z28, z29, z30, z31, z32]), (24, nv 6 [v0, v1, v2, v3, v4, v5])] 14 _ (by kernel_rfl) (by kernel_rfl) (by kernel_rfl) (by kernel_rfl) rfl rfl (by kernel_rfl) rfl (by simp only [putAll, List.setIfInBounds_toArray, List.set_cons_zero, List.set_cons_succ]) (Bel.start _) ?_ ?_)
  · refine PlanInit.cons (ps_val (v := nv 6 [b0, b1, b2, b3, b4, b5]) rfl rfl rfl (fun W' h => ex_loadn (K := 6) (k := 0) (j := 6) (l := [b0, b1, b2, b3, b4, b5]) flFp6 rfl (A49.keep h.out) rfl _ rfl)) ?_
    refine PlanInit.cons (ps_val (v := .pointer (some ⟨w.heap.size, 0, none⟩)) rfl rfl rfl (fun W' h => ex_field faFp6_0 rfl)) ?_
    refine PlanInit.cons (ps_val (v := nv 6 [a0, a1]) rfl rfl rfl (fun W' h => ex_loadn (K := 6) (k := 0) (j := 2) (l := [a0, a1, a2, a3, a4, a5]) flFp2 rfl (A48.keep h.out) rfl _ rfl)) ?_
    refine PlanInit.cons (ps_call (v := nv 6 [z9, z10, z11, z12, z13, z14]) rfl rfl rfl (fun W' => ex_call (vs := [nv 6 [b0, b1, b2, b3, b4, b5], nv 6 [a0, a1]]) rfl Try.call51 rfl) (fun W' h => sextscale_r rb0 rb1 rb2 rb3 rb4 rb5 ra0 ra1 lb0 lb1 lb2 lb3 lb4 lb5 la0 la1 bz9 bz10 bz11 bz12 bz13 bz14 (rep_to rz9 (sid5 x0 x1 y0 y1)) (rep_to rz10 (sid6 x0 x1 y0 y1)) (rep_to rz11 (sid7 x0 x1 y2 y3)) (rep_to rz12 (sid8 x0 x1 y2 y3)) (rep_to rz13 (sid9 x0 x1 y4 y5)) (rep_to rz14 (sid10 x0 x1 y4 y5)) _)) ?_
    refine PlanInit.cons (ps_val (v := nv 6 [z1, z2, z3, z4, z5, z6]) rfl rfl rfl (fun W' h => ex_loadn (K := 6) (k := 0) (j := 6) (l := [z1, z2, z3, z4, z5, z6]) flFp6 rfl (A51.keep h.out) rfl _ rfl)) ?_
    refine PlanInit.cons (ps_val (v := .pointer (some ⟨w.heap.size, 12, none⟩)) rfl rfl rfl (fun W' h => ex_field faFp6_1 rfl)) ?_
    refine PlanInit.cons (ps_val (v := nv 6 [a2, a3]) rfl rfl rfl (fun W' h => ex_loadn (K := 6) (k := 2) (j := 2) (l := [a0, a1, a2, a3, a4, a5]) flFp2 rfl (A48.keep h.out) rfl _ rfl)) ?_
    refine PlanInit.cons (ps_call (v := nv 6 [z15, z16, z17, z18, z19, z20]) rfl rfl rfl (fun W' => ex_call (vs := [nv 6 [z1, z2, z3, z4, z5, z6], nv 6 [a2, a3]]) rfl Try.call51 rfl) (fun W' h => sextscale_r rz1 rz2 rz3 rz4 rz5 rz6 ra2 ra3 (Nat.lt_trans bz1 fpM_lt) (Nat.lt_trans bz2 fpM_lt) (Nat.lt_trans bz3 fpM_lt) (Nat.lt_trans bz4 fpM_lt) (Nat.lt_trans bz5 fpM_lt) (Nat.lt_trans bz6 fpM_lt) la2 la3 bz15 bz16 bz17 bz18 bz19 bz20 (rep_to rz15 (sid11 x2 x3 y4 y5)) (rep_to rz16 (sid12 x2 x3 y4 y5)) (rep_to rz17 (sid13 x2 x3 y0 y1)) (rep_to rz18 (sid14 x2 x3 y0 y1)) (rep_to rz19 (sid15 x2 x3 y2 y3)) (rep_to rz20 (sid16 x2 x3 y2 y3)) _)) ?_
    refine PlanInit.cons (ps_val (v := nv 6 [z7, z8, z1, z2, z3, z4]) rfl rfl rfl (fun W' h => ex_loadn (K := 6) (k := 0) (j := 6) (l := [z7, z8, z1, z2, z3, z4]) flFp6 rfl (N47.keep h.out) rfl _ rfl)) ?_
    refine PlanInit.cons (ps_val (v := .pointer (some ⟨w.heap.size, 24, none⟩)) rfl rfl rfl (fun W' h => ex_field faFp6_2 rfl)) ?_
    refine PlanInit.cons (ps_val (v := nv 6 [a4, a5]) rfl rfl rfl (fun W' h => ex_loadn (K := 6) (k := 4) (j := 2) (l := [a0, a1, a2, a3, a4, a5]) flFp2 rfl (A48.keep h.out) rfl _ rfl)) ?_
    refine PlanInit.cons (ps_call (v := nv 6 [z21, z22, z23, z24, z25, z26]) rfl rfl rfl (fun W' => ex_call (vs := [nv 6 [z7, z8, z1, z2, z3, z4], nv 6 [a4, a5]]) rfl Try.call51 rfl) (fun W' h => sextscale_r rz7 rz8 rz1 rz2 rz3 rz4 ra4 ra5 (Nat.lt_trans bz7 fpM_lt) (Nat.lt_trans bz8 fpM_lt) (Nat.lt_trans bz1 fpM_lt) (Nat.lt_trans bz2 fpM_lt) (Nat.lt_trans bz3 fpM_lt) (Nat.lt_trans bz4 fpM_lt) la4 la5 bz21 bz22 bz23 bz24 bz25 bz26 (rep_to rz21 (sid17 x4 x5 y2 y3)) (rep_to rz22 (sid18 x4 x5 y2 y3)) (rep_to rz23 (sid19 x4 x5 y4 y5)) (rep_to rz24 (sid20 x4 x5 y4 y5)) (rep_to rz25 (sid21 x4 x5 y0 y1)) (rep_to rz26 (sid22 x4 x5 y0 y1)) _)) ?_
    refine PlanInit.cons (ps_call (v := nv 6 [z27, z28, z29, z30, z31, z32]) rfl rfl rfl (fun W' => ex_call (vs := [nv 6 [z15, z16, z17, z18, z19, z20], nv 6 [z21, z22, z23, z24, z25, z26]]) rfl Try.call26 rfl) (fun W' h => sextAdd_r rz15 rz16 rz17 rz18 rz19 rz20 rz21 rz22 rz23 rz24 rz25 rz26 (Nat.lt_trans bz15 fpM_lt) (Nat.lt_trans bz16 fpM_lt) (Nat.lt_trans bz17 fpM_lt) (Nat.lt_trans bz18 fpM_lt) (Nat.lt_trans bz19 fpM_lt) (Nat.lt_trans bz20 fpM_lt) (Nat.lt_trans bz21 fpM_lt) (Nat.lt_trans bz22 fpM_lt) (Nat.lt_trans bz23 fpM_lt) (Nat.lt_trans bz24 fpM_lt) (Nat.lt_trans bz25 fpM_lt) (Nat.lt_trans bz26 fpM_lt) bz27 bz28 bz29 bz30 bz31 bz32 (rep_to rz27 (sid23 x2 x3 x4 x5 y2 y3 y4 y5)) (rep_to rz28 (sid24 x2 x3 x4 x5 y2 y3 y4 y5)) (rep_to rz29 (sid25 x2 x3 x4 x5 y0 y1 y4 y5)) (rep_to rz30 (sid26 x2 x3 x4 x5 y0 y1 y4 y5)) (rep_to rz31 (sid27 x2 x3 x4 x5 y0 y1 y2 y3)) (rep_to rz32 (sid28 x2 x3 x4 x5 y0 y1 y2 y3)) _)) ?_
    refine PlanInit.cons (ps_call (v := nv 6 [v0, v1, v2, v3, v4, v5]) rfl rfl rfl (fun W' => ex_call (vs := [nv 6 [z9, z10, z11, z12, z13, z14], nv 6 [z27, z28, z29, z30, z31, z32]]) rfl Try.call26 rfl) (fun W' h => sextAdd_r rz9 rz10 rz11 rz12 rz13 rz14 rz27 rz28 rz29 rz30 rz31 rz32 (Nat.lt_trans bz9 fpM_lt) (Nat.lt_trans bz10 fpM_lt) (Nat.lt_trans bz11 fpM_lt) (Nat.lt_trans bz12 fpM_lt) (Nat.lt_trans bz13 fpM_lt) (Nat.lt_trans bz14 fpM_lt) (Nat.lt_trans bz27 fpM_lt) (Nat.lt_trans bz28 fpM_lt) (Nat.lt_trans bz29 fpM_lt) (Nat.lt_trans bz30 fpM_lt) (Nat.lt_trans bz31 fpM_lt) (Nat.lt_trans bz32 fpM_lt) bv0 bv1 bv2 bv3 bv4 bv5 (rep_to rv0 (sid29 x0 x1 x2 x3 x4 x5 y0 y1 y2 y3 y4 y5)) (rep_to rv1 (sid30 x0 x1 x2 x3 x4 x5 y0 y1 y2 y3 y4 y5)) (rep_to rv2 (sid31 x0 x1 x2 x3 x4 x5 y0 y1 y2 y3 y4 y5)) (rep_to rv3 (sid32 x0 x1 x2 x3 x4 x5 y0 y1 y2 y3 y4 y5)) (rep_to rv4 (sid33 x0 x1 x2 x3 x4 x5 y0 y1 y2 y3 y4 y5)) (rep_to rv5 (sid34 x0 x1 x2 x3 x4 x5 y0 y1 y2 y3 y4 y5)) _)) ?_
    exact PlanInit.one
  refine last_store (t := 28) (xs := rows 6 [0, 0, 0, 0, 0, 0]) (ys := rows 6 [v0, v1, v2, v3, v4, v5]) rfl rfl (fun W' h => A50.keep h.out) (len_rows rfl) (fun W' h => ex_storen (K := 6) (l := [0, 0, 0, 0, 0, 0]) (m := [v0, v1, v2, v3, v4, v5]) flFp6 rfl rfl (A50.keep h.out) rfl) ?_
  intro w53 w54 hb53 N54 hst54 hoth54
  refine then_n ?_
  have A55 := A48.keep hb53.out
  have A56 := A49.keep hb53.out
  have A57 := A50.keep hb53.out
  have A58 := A51.keep hb53.out
  have A59 := N47.keep hb53.out
  have HB60 := below_then HB52 hb53.out
  have A61 := hoth54 _ _ _ (Nat.ne_of_lt A4.lt) A55
  have A62 := hoth54 _ _ _ (Nat.ne_of_lt N3.lt) A56
  have A63 := hoth54 _ _ _ (Ne.symm (Nat.ne_of_lt A16.lt)) A58
  have A64 := hoth54 _ _ _ (Ne.symm (Nat.ne_of_lt A34.lt)) A59
  have HB65 := hst54 _ _ HB60 HB5.size
  exact wp_ret (bodyPost_ret (ret_celln (K := 6) Try.results30 rfl N54 flFp6) rfl ⟨rfl, HB65⟩)

theorem sid71 (x0 x1 : Int) : (2 * x0 * x1 : Int) = x0 * x1 + x1 * x0 := by grind
theorem sid72 (x2 x3 x4 x5 : Int) : (x2 * x4 - x2 * x5 - x3 * x4 - x3 * x5 : Int) = (x2 * x4 - x3 * x5) - (x2 * x5 + x3 * x4) := by grind
theorem sid73 (x2 x3 x4 x5 : Int) : (x2 * x4 + x2 * x5 + x3 * x4 - x3 * x5 : Int) = (x2 * x4 - x3 * x5) + (x2 * x5 + x3 * x4) := by grind
theorem sid74 (x0 x1 x2 x3 x4 x5 : Int) : (x0 * x0 + x2 * x5 + x3 * x4 + x3 * x5 - x1 * x1 - x2 * x4 : Int) = (x0 * x0 - x1 * x1) - (x2 * x4 - x2 * x5 - x3 * x4 - x3 * x5) := by grind
theorem sid75 (x0 x1 x2 x3 x4 x5 : Int) : (2 * x0 * x1 + x3 * x5 - x2 * x4 - x2 * x5 - x3 * x4 : Int) = (2 * x0 * x1) - (x2 * x4 + x2 * x5 + x3 * x4 - x3 * x5) := by grind
theorem sid76 (x4 x5 : Int) : (2 * x4 * x5 : Int) = x4 * x5 + x5 * x4 := by grind
theorem sid77 (x4 x5 : Int) : (x4 * x4 - 2 * x4 * x5 - x5 * x5 : Int) = (x4 * x4 - x5 * x5) - (2 * x4 * x5) := by grind
theorem sid78 (x4 x5 : Int) : (x4 * x4 + 2 * x4 * x5 - x5 * x5 : Int) = (x4 * x4 - x5 * x5) + (2 * x4 * x5) := by grind
theorem sid79 (x0 x1 x2 x3 x4 x5 : Int) : (x1 * x3 + x4 * x4 - x0 * x2 - 2 * x4 * x5 - x5 * x5 : Int) = (x4 * x4 - 2 * x4 * x5 - x5 * x5) - (x0 * x2 - x1 * x3) := by grind
theorem sid80 (x0 x1 x2 x3 x4 x5 : Int) : (x4 * x4 + 2 * x4 * x5 - x0 * x3 - x1 * x2 - x5 * x5 : Int) = (x4 * x4 + 2 * x4 * x5 - x5 * x5) - (x0 * x3 + x1 * x2) := by grind
theorem sid81 (x2 x3 : Int) : (2 * x2 * x3 : Int) = x2 * x3 + x3 * x2 := by grind
theorem sid82 (x0 x1 x2 x3 x4 x5 : Int) : (x1 * x5 + x2 * x2 - x0 * x4 - x3 * x3 : Int) = (x2 * x2 - x3 * x3) - (x0 * x4 - x1 * x5) := by grind
theorem sid83 (x0 x1 x2 x3 x4 x5 : Int) : (2 * x2 * x3 - x0 * x5 - x1 * x4 : Int) = (2 * x2 * x3) - (x0 * x5 + x1 * x4) := by grind

set_option maxRecDepth 20000 in
set_option maxHeartbeats 4000000 in
theorem sextcofactor_r {a0 a1 a2 a3 a4 a5 : Nat} {x0 x1 x2 x3 x4 x5 : Int} (ra0 : Rep a0 x0) (ra1 : Rep a1 x1) (ra2 : Rep a2 x2) (ra3 : Rep a3 x3) (ra4 : Rep a4 x4) (ra5 : Rep a5 x5) (la0 : a0 < fpB) (la1 : a1 < fpB) (la2 : a2 < fpB) (la3 : a3 < fpB) (la4 : a4 < fpB) (la5 : a5 < fpB) {v0 v1 v2 v3 v4 v5 : Nat} (bv0 : v0 < pN) (bv1 : v1 < pN) (bv2 : v2 < pN) (bv3 : v3 < pN) (bv4 : v4 < pN) (bv5 : v5 < pN) (rv0 : Rep v0 (x0 * x0 + x2 * x5 + x3 * x4 + x3 * x5 - x1 * x1 - x2 * x4)) (rv1 : Rep v1 (2 * x0 * x1 + x3 * x5 - x2 * x4 - x2 * x5 - x3 * x4)) (rv2 : Rep v2 (x1 * x3 + x4 * x4 - x0 * x2 - 2 * x4 * x5 - x5 * x5)) (rv3 : Rep v3 (x4 * x4 + 2 * x4 * x5 - x0 * x3 - x1 * x2 - x5 * x5)) (rv4 : Rep v4 (x1 * x5 + x2 * x2 - x0 * x4 - x3 * x3)) (rv5 : Rep v5 (2 * x2 * x3 - x0 * x5 - x1 * x4)) (w : World) :
    Calls Try.prog 54 #[nv 6 [a0, a1, a2, a3, a4, a5]] w (Is (nv 6 [v0, v1, v2, v3, v4, v5]) w) := by
  obtain ⟨z1, bz1, rz1⟩ := rep_of (x0 * x0 - x1 * x1)
  obtain ⟨z2, bz2, rz2⟩ := rep_of (2 * x0 * x1)
  obtain ⟨z3, bz3, rz3⟩ := rep_of (x2 * x4 - x3 * x5)
  obtain ⟨z4, bz4, rz4⟩ := rep_of (x2 * x5 + x3 * x4)
  obtain ⟨z5, bz5, rz5⟩ := rep_of (x2 * x4 - x2 * x5 - x3 * x4 - x3 * x5)
  obtain ⟨z6, bz6, rz6⟩ := rep_of (x2 * x4 + x2 * x5 + x3 * x4 - x3 * x5)
  obtain ⟨z7, bz7, rz7⟩ := rep_of (x4 * x4 - x5 * x5)
  obtain ⟨z8, bz8, rz8⟩ := rep_of (2 * x4 * x5)
  obtain ⟨z9, bz9, rz9⟩ := rep_of (x4 * x4 - 2 * x4 * x5 - x5 * x5)
  obtain ⟨z10, bz10, rz10⟩ := rep_of (x4 * x4 + 2 * x4 * x5 - x5 * x5)
  obtain ⟨z11, bz11, rz11⟩ := rep_of (x0 * x2 - x1 * x3)
  obtain ⟨z12, bz12, rz12⟩ := rep_of (x0 * x3 + x1 * x2)
  obtain ⟨z13, bz13, rz13⟩ := rep_of (x2 * x2 - x3 * x3)
  obtain ⟨z14, bz14, rz14⟩ := rep_of (2 * x2 * x3)
  obtain ⟨z15, bz15, rz15⟩ := rep_of (x0 * x4 - x1 * x5)
  obtain ⟨z16, bz16, rz16⟩ := rep_of (x0 * x5 + x1 * x4)
  go_enter Try.func54, Try.ntmps54
  refine seq_lit ?_
  refine sq_new (a' := ⟨List.toArray ((nv 6 [a0, a1, a2, a3, a4, a5]) :: (.pointer (some ⟨w.heap.size, 0, none⟩)) :: undef :: undef :: undef :: undef :: undef :: undef :: undef :: undef :: undef :: undef :: undef :: undef :: undef :: undef :: undef :: undef :: undef :: undef :: undef :: undef :: undef :: undef :: undef :: undef :: undef :: undef :: undef :: undef :: undef :: undef :: undef :: undef :: undef :: undef :: undef :: undef :: undef :: []), []⟩) (xs := rows 6 [a0, a1, a2, a3, a4, a5]) rfl rfl (ex_boxn (K := 6) (l := [a0, a1, a2, a3, a4, a5]) rfl) ?_
  intro w1 N1 hb1
  have HB2 := below_then (Below.refl w.heap.size w) hb1
  refine sq_new (a' := ⟨List.toArray ((nv 6 [a0, a1, a2, a3, a4, a5]) :: (.pointer (some ⟨w.heap.size, 0, none⟩)) :: (.pointer (some ⟨w1.heap.size, 0, none⟩)) :: undef :: undef :: undef :: undef :: undef :: undef :: undef :: undef :: undef :: undef :: undef :: undef :: undef :: undef :: undef :: undef :: undef :: undef :: undef :: undef :: undef :: undef :: undef :: undef :: undef :: undef :: undef :: undef :: undef :: undef :: undef :: undef :: undef :: undef :: undef :: undef :: []), []⟩) (xs := rows 6 [0, 0, 0, 0, 0, 0]) rfl rfl (ex_alloc zFp6) ?_
  intro w3 N3 hb3
  have A4 := N1.keep hb3
  have HB5 := below_then HB2 hb3
  refine seq_nil ?_
  refine wp_seq (wp_region_last (F := ⟨List.toArray ((nv 6 [a0, a1, a2, a3, a4, a5]) :: (.pointer (some ⟨w.heap.size, 0, none⟩)) :: (.pointer (some ⟨w1.heap.size, 0, none⟩)) :: (.pointer (some ⟨w.heap.size, 0, none⟩)) :: (nv 6 [a0, a1]) :: (.pointer (some ⟨w.heap.size, 0, none⟩)) :: (nv 6 [a0, a1]) :: (nv 6 [z1, z2]) :: (.pointer (some ⟨w.heap.size, 12, none⟩)) :: (nv 6 [a2, a3]) :: (.pointer (some ⟨w.heap.size, 24, none⟩)) :: (nv 6 [a4, a5]) :: (nv 6 [z3, z4]) :: (nv 6 [z5, z6]) :: (nv 6 [v0, v1]) :: (.pointer (some ⟨w.heap.size, 24, none⟩)) :: (nv 6 [a4, a5]) :: (.pointer (some ⟨w.heap.size, 24, none⟩)) :: (nv 6 [a4, a5]) :: (nv 6 [z7, z8]) :: (nv 6 [z9, z10]) :: (.pointer (some ⟨w.heap.size, 0, none⟩)) :: (nv 6 [a0, a1]) :: (.pointer (some ⟨w.heap.size, 12, none⟩)) :: (nv 6 [a2, a3]) :: (nv 6 [z11, z12]) :: (nv 6 [v2, v3]) :: (.pointer (some ⟨w.heap.size, 12, none⟩)) :: (nv 6 [a2, a3]) :: (.pointer (some ⟨w.heap.size, 12, none⟩)) :: (nv 6 [a2, a3]) :: (nv 6 [z13, z14]) :: (.pointer (some ⟨w.heap.size, 0, none⟩)) :: (nv 6 [a0, a1]) :: (.pointer (some ⟨w.heap.size, 24, none⟩)) :: (nv 6 [a4, a5]) :: (nv 6 [z15, z16]) :: (nv 6 [v4, v5]) :: (nv 6 [v0, v1, v2, v3, v4, v5]) :: []), []⟩) (S := Bel w3) [(3, .pointer (some ⟨w.heap.size, 0, none⟩)), (4, nv 6 [a0, a1]), (5, .pointer (some ⟨w.heap.size, 0, none⟩)), (6, nv 6 [a0, a1]), (7, nv 6 [z1, z2]), (8, .pointer (some ⟨w.heap.size, 12, none⟩)), (9, nv 6 [a2, a3]), (10, .pointer (some ⟨w.heap.size, 24, none⟩)), (11, nv 6 [a4, a5]), (12, nv 6 [z3, z4]), (13, nv 6 [z5, z6]), (14, nv 6 [v0, v1]), (15, .pointer (some ⟨w.heap.size, 24, none⟩)), (16, nv 6 [a4, a5]), (17, .pointer (some ⟨w.heap.size, 24, none⟩)), (18, nv 6 [a4, a5]), (19, nv 6 [z7, z8]), (20, nv 6 [z9, z10]), (21, .pointer (some ⟨w.heap.size, 0, none⟩)), (22, nv 6 [a0, a1]), (23, .pointer (some ⟨w.heap.size, 12, none⟩)), (24, nv 6 [a2, a3]), (25, nv 6 [z11, z12]), (26, nv 6 [v2, v3]), (27, .pointer (some ⟨w.heap.size, 12, none⟩)), (28, nv 6 [a2, a3]), (29, .pointer (some ⟨w.heap.size, 12, none⟩)), (30, nv 6 [a2, a3]), (31, nv 6 [z13, z14]), (32, .pointer (some ⟨w.heap.size, 0, none⟩)), (33, nv 6 [a0, a1]), (34, .pointer (some ⟨w.heap.size, 24, none⟩)), (35, nv 6 [a4, a5]), (36, nv 6 [z15, z16]), (37, nv 6 [v4, v5]), (38, nv 6 [v0, v1, v2, v3, v4, v5])] 36 _ (by kernel_rfl) (by kernel_rfl) (by kernel_rfl) (by kernel_rfl) rfl rfl (by kernel_rfl) rfl (by simp only [putAll, List.setIfInBounds_toArray, List.set_cons_zero, List.set_cons_succ]) (Bel.start _) ?_ ?_)
  · refine PlanInit.cons (ps_val (v := .pointer (some ⟨w.heap.size, 0, none⟩)) rfl rfl rfl (fun W' h => ex_field faFp6_0 rfl)) ?_
    refine PlanInit.cons (ps_val (v := nv 6 [a0, a1]) rfl rfl rfl (fun W' h => ex_loadn (K := 6) (k := 0) (j := 2) (l := [a0, a1, a2, a3, a4, a5]) flFp2 rfl (A4.keep h.out) rfl _ rfl)) ?_
    refine PlanInit.cons (ps_val (v := .pointer (some ⟨w.heap.size, 0, none⟩)) rfl rfl rfl (fun W' h => ex_field faFp6_0 rfl)) ?_
    refine PlanInit.cons (ps_val (v := nv 6 [a0, a1]) rfl rfl rfl (fun W' h => ex_loadn (K := 6) (k := 0) (j := 2) (l := [a0, a1, a2, a3, a4, a5]) flFp2 rfl (A4.keep h.out) rfl _ rfl)) ?_
    refine PlanInit.cons (ps_call (v := nv 6 [z1, z2]) rfl rfl rfl (fun W' => ex_call (vs := [nv 6 [a0, a1], nv 6 [a0, a1]]) rfl Try.call69 rfl) (fun W' h => duoMul_r ra0 ra1 ra0 ra1 la0 la1 la0 la1 bz1 bz2 rz1 (rep_to rz2 (sid71 x0 x1)) _)) ?_
    refine PlanInit.cons (ps_val (v := .pointer (some ⟨w.heap.size, 12, none⟩)) rfl rfl rfl (fun W' h => ex_field faFp6_1 rfl)) ?_
    refine PlanInit.cons (ps_val (v := nv 6 [a2, a3]) rfl rfl rfl (fun W' h => ex_loadn (K := 6) (k := 2) (j := 2) (l := [a0, a1, a2, a3, a4, a5]) flFp2 rfl (A4.keep h.out) rfl _ rfl)) ?_
    refine PlanInit.cons (ps_val (v := .pointer (some ⟨w.heap.size, 24, none⟩)) rfl rfl rfl (fun W' h => ex_field faFp6_2 rfl)) ?_
    refine PlanInit.cons (ps_val (v := nv 6 [a4, a5]) rfl rfl rfl (fun W' h => ex_loadn (K := 6) (k := 4) (j := 2) (l := [a0, a1, a2, a3, a4, a5]) flFp2 rfl (A4.keep h.out) rfl _ rfl)) ?_
    refine PlanInit.cons (ps_call (v := nv 6 [z3, z4]) rfl rfl rfl (fun W' => ex_call (vs := [nv 6 [a2, a3], nv 6 [a4, a5]]) rfl Try.call69 rfl) (fun W' h => duoMul_r ra2 ra3 ra4 ra5 la2 la3 la4 la5 bz3 bz4 rz3 rz4 _)) ?_
    refine PlanInit.cons (ps_call (v := nv 6 [z5, z6]) rfl rfl rfl (fun W' => ex_call (vs := [nv 6 [z3, z4]]) rfl Try.call52 rfl) (fun W' h => sextwrap_r rz3 rz4 (Nat.lt_trans bz3 fpM_lt) (Nat.lt_trans bz4 fpM_lt) bz5 bz6 (rep_to rz5 (sid72 x2 x3 x4 x5)) (rep_to rz6 (sid73 x2 x3 x4 x5)) _)) ?_
    refine PlanInit.cons (ps_call (v := nv 6 [v0, v1]) rfl rfl rfl (fun W' => ex_call (vs := [nv 6 [z1, z2], nv 6 [z5, z6]]) rfl Try.call67 rfl) (fun W' h => duoSub_r rz1 rz2 rz5 rz6 (Nat.lt_trans bz1 fpM_lt) (Nat.lt_trans bz2 fpM_lt) (Nat.lt_trans bz5 fpM_lt) (Nat.lt_trans bz6 fpM_lt) bv0 bv1 (rep_to rv0 (sid74 x0 x1 x2 x3 x4 x5)) (rep_to rv1 (sid75 x0 x1 x2 x3 x4 x5)) _)) ?_
    refine PlanInit.cons (ps_val (v := .pointer (some ⟨w.heap.size, 24, none⟩)) rfl rfl rfl (fun W' h => ex_field faFp6_2 rfl)) ?_
    refine PlanInit.cons (ps_val (v := nv 6 [a4, a5]) rfl rfl rfl (fun W' h => ex_loadn (K := 6) (k := 4) (j := 2) (l := [a0, a1, a2, a3, a4, a5]) flFp2 rfl (A4.keep h.out) rfl _ rfl)) ?_
    refine PlanInit.cons (ps_val (v := .pointer (some ⟨w.heap.size, 24, none⟩)) rfl rfl rfl (fun W' h => ex_field faFp6_2 rfl)) ?_
    refine PlanInit.cons (ps_val (v := nv 6 [a4, a5]) rfl rfl rfl (fun W' h => ex_loadn (K := 6) (k := 4) (j := 2) (l := [a0, a1, a2, a3, a4, a5]) flFp2 rfl (A4.keep h.out) rfl _ rfl)) ?_
    refine PlanInit.cons (ps_call (v := nv 6 [z7, z8]) rfl rfl rfl (fun W' => ex_call (vs := [nv 6 [a4, a5], nv 6 [a4, a5]]) rfl Try.call69 rfl) (fun W' h => duoMul_r ra4 ra5 ra4 ra5 la4 la5 la4 la5 bz7 bz8 rz7 (rep_to rz8 (sid76 x4 x5)) _)) ?_
    refine PlanInit.cons (ps_call (v := nv 6 [z9, z10]) rfl rfl rfl (fun W' => ex_call (vs := [nv 6 [z7, z8]]) rfl Try.call52 rfl) (fun W' h => sextwrap_r rz7 rz8 (Nat.lt_trans bz7 fpM_lt) (Nat.lt_trans bz8 fpM_lt) bz9 bz10 (rep_to rz9 (sid77 x4 x5)) (rep_to rz10 (sid78 x4 x5)) _)) ?_
    refine PlanInit.cons (ps_val (v := .pointer (some ⟨w.heap.size, 0, none⟩)) rfl rfl rfl (fun W' h => ex_field faFp6_0 rfl)) ?_
    refine PlanInit.cons (ps_val (v := nv 6 [a0, a1]) rfl rfl rfl (fun W' h => ex_loadn (K := 6) (k := 0) (j := 2) (l := [a0, a1, a2, a3, a4, a5]) flFp2 rfl (A4.keep h.out) rfl _ rfl)) ?_
    refine PlanInit.cons (ps_val (v := .pointer (some ⟨w.heap.size, 12, none⟩)) rfl rfl rfl (fun W' h => ex_field faFp6_1 rfl)) ?_
    refine PlanInit.cons (ps_val (v := nv 6 [a2, a3]) rfl rfl rfl (fun W' h => ex_loadn (K := 6) (k := 2) (j := 2) (l := [a0, a1, a2, a3, a4, a5]) flFp2 rfl (A4.keep h.out) rfl _ rfl)) ?_
    refine PlanInit.cons (ps_call (v := nv 6 [z11, z12]) rfl rfl rfl (fun W' => ex_call (vs := [nv 6 [a0, a1], nv 6 [a2, a3]]) rfl Try.call69 rfl) (fun W' h => duoMul_r ra0 ra1 ra2 ra3 la0 la1 la2 la3 bz11 bz12 rz11 rz12 _)) ?_
    refine PlanInit.cons (ps_call (v := nv 6 [v2, v3]) rfl rfl rfl (fun W' => ex_call (vs := [nv 6 [z9, z10], nv 6 [z11, z12]]) rfl Try.call67 rfl) (fun W' h => duoSub_r rz9 rz10 rz11 rz12 (Nat.lt_trans bz9 fpM_lt) (Nat.lt_trans bz10 fpM_lt) (Nat.lt_trans bz11 fpM_lt) (Nat.lt_trans bz12 fpM_lt) bv2 bv3 (rep_to rv2 (sid79 x0 x1 x2 x3 x4 x5)) (rep_to rv3 (sid80 x0 x1 x2 x3 x4 x5)) _)) ?_
    refine PlanInit.cons (ps_val (v := .pointer (some ⟨w.heap.size, 12, none⟩)) rfl rfl rfl (fun W' h => ex_field faFp6_1 rfl)) ?_
    refine PlanInit.cons (ps_val (v := nv 6 [a2, a3]) rfl rfl rfl (fun W' h => ex_loadn (K := 6) (k := 2) (j := 2) (l := [a0, a1, a2, a3, a4, a5]) flFp2 rfl (A4.keep h.out) rfl _ rfl)) ?_
    refine PlanInit.cons (ps_val (v := .pointer (some ⟨w.heap.size, 12, none⟩)) rfl rfl rfl (fun W' h => ex_field faFp6_1 rfl)) ?_
    refine PlanInit.cons (ps_val (v := nv 6 [a2, a3]) rfl rfl rfl (fun W' h => ex_loadn (K := 6) (k := 2) (j := 2) (l := [a0, a1, a2, a3, a4, a5]) flFp2 rfl (A4.keep h.out) rfl _ rfl)) ?_
    refine PlanInit.cons (ps_call (v := nv 6 [z13, z14]) rfl rfl rfl (fun W' => ex_call (vs := [nv 6 [a2, a3], nv 6 [a2, a3]]) rfl Try.call69 rfl) (fun W' h => duoMul_r ra2 ra3 ra2 ra3 la2 la3 la2 la3 bz13 bz14 rz13 (rep_to rz14 (sid81 x2 x3)) _)) ?_
    refine PlanInit.cons (ps_val (v := .pointer (some ⟨w.heap.size, 0, none⟩)) rfl rfl rfl (fun W' h => ex_field faFp6_0 rfl)) ?_
    refine PlanInit.cons (ps_val (v := nv 6 [a0, a1]) rfl rfl rfl (fun W' h => ex_loadn (K := 6) (k := 0) (j := 2) (l := [a0, a1, a2, a3, a4, a5]) flFp2 rfl (A4.keep h.out) rfl _ rfl)) ?_
    refine PlanInit.cons (ps_val (v := .pointer (some ⟨w.heap.size, 24, none⟩)) rfl rfl rfl (fun W' h => ex_field faFp6_2 rfl)) ?_
    refine PlanInit.cons (ps_val (v := nv 6 [a4, a5]) rfl rfl rfl (fun W' h => ex_loadn (K := 6) (k := 4) (j := 2) (l := [a0, a1, a2, a3, a4, a5]) flFp2 rfl (A4.keep h.out) rfl _ rfl)) ?_
    refine PlanInit.cons (ps_call (v := nv 6 [z15, z16]) rfl rfl rfl (fun W' => ex_call (vs := [nv 6 [a0, a1], nv 6 [a4, a5]]) rfl Try.call69 rfl) (fun W' h => duoMul_r ra0 ra1 ra4 ra5 la0 la1 la4 la5 bz15 bz16 rz15 rz16 _)) ?_
    refine PlanInit.cons (ps_call (v := nv 6 [v4, v5]) rfl rfl rfl (fun W' => ex_call (vs := [nv 6 [z13, z14], nv 6 [z15, z16]]) rfl Try.call67 rfl) (fun W' h => duoSub_r rz13 rz14 rz15 rz16 (Nat.lt_trans bz13 fpM_lt) (Nat.lt_trans bz14 fpM_lt) (Nat.lt_trans bz15 fpM_lt) (Nat.lt_trans bz16 fpM_lt) bv4 bv5 (rep_to rv4 (sid82 x0 x1 x2 x3 x4 x5)) (rep_to rv5 (sid83 x0 x1 x2 x3 x4 x5)) _)) ?_
    refine PlanInit.cons (ps_val (v := nv 6 [v0, v1, v2, v3, v4, v5]) rfl rfl rfl (fun W' h => ex_build stFp6 (vs := [(0, nv 6 [v0, v1]), (1, nv 6 [v2, v3]), (2, nv 6 [v4, v5])]) rfl (bdABC v0 v1 v2 v3 v4 v5))) ?_
    exact PlanInit.one
  refine last_store (t := 28) (xs := rows 6 [0, 0, 0, 0, 0, 0]) (ys := rows 6 [v0, v1, v2, v3, v4, v5]) rfl rfl (fun W' h => N3.keep h.out) (len_rows rfl) (fun W' h => ex_storen (K := 6) (l := [0, 0, 0, 0, 0, 0]) (m := [v0, v1, v2, v3, v4, v5]) flFp6 rfl rfl (N3.keep h.out) rfl) ?_
  intro w7 w8 hb7 N8 hst8 hoth8
  refine then_n ?_
  have A9 := A4.keep hb7.out
  have A10 := N3.keep hb7.out
  have HB11 := below_then HB5 hb7.out
  have A12 := hoth8 _ _ _ (Nat.ne_of_lt N1.lt) A9
  have HB13 := hst8 _ _ HB11 HB2.size
  exact wp_ret (bodyPost_ret (ret_celln (K := 6) Try.results54 rfl N8 flFp6) rfl ⟨rfl, HB13⟩)

theorem sid84 (x2 x3 x4 x5 y2 y3 y4 y5 : Int) : (x2 * y4 + x4 * y2 - x3 * y5 - x5 * y3 : Int) = (x2 * y4 - x3 * y5) + (x4 * y2 - x5 * y3) := by grind
theorem sid85 (x2 x3 x4 x5 y2 y3 y4 y5 : Int) : (x2 * y5 + x3 * y4 + x4 * y3 + x5 * y2 : Int) = (x2 * y5 + x3 * y4) + (x4 * y3 + x5 * y2) := by grind
theorem sid86 (x2 x3 x4 x5 y2 y3 y4 y5 : Int) : (x2 * y4 + x4 * y2 - x2 * y5 - x3 * y4 - x3 * y5 - x4 * y3 - x5 * y2 - x5 * y3 : Int) = (x2 * y4 + x4 * y2 - x3 * y5 - x5 * y3) - (x2 * y5 + x3 * y4 + x4 * y3 + x5 * y2) := by grind
theorem sid87 (x2 x3 x4 x5 y2 y3 y4 y5 : Int) : (x2 * y4 + x2 * y5 + x3 * y4 + x4 * y2 + x4 * y3 + x5 * y2 - x3 * y5 - x5 * y3 : Int) = (x2 * y4 + x4 * y2 - x3 * y5 - x5 * y3) + (x2 * y5 + x3 * y4 + x4 * y3 + x5 * y2) := by grind

set_option maxRecDepth 20000 in
set_option maxHeartbeats 4000000 in
theorem sextnorm_r {a0 a1 a2 a3 a4 a5 b0 b1 b2 b3 b4 b5 : Nat} {x0 x1 x2 x3 x4 x5 y0 y1 y2 y3 y4 y5 : Int} (ra0 : Rep a0 x0) (ra1 : Rep a1 x1) (ra2 : Rep a2 x2) (ra3 : Rep a3 x3) (ra4 : Rep a4 x4) (ra5 : Rep a5 x5) (rb0 : Rep b0 y0) (rb1 : Rep b1 y1) (rb2 : Rep b2 y2) (rb3 : Rep b3 y3) (rb4 : Rep b4 y4) (rb5 : Rep b5 y5) (la0 : a0 < fpB) (la1 : a1 < fpB) (la2 : a2 < fpB) (la3 : a3 < fpB) (la4 : a4 < fpB) (la5 : a5 < fpB) (lb0 : b0 < fpB) (lb1 : b1 < fpB) (lb2 : b2 < fpB) (lb3 : b3 < fpB) (lb4 : b4 < fpB) (lb5 : b5 < fpB) {v0 v1 : Nat} (bv0 : v0 < pN) (bv1 : v1 < pN) (rv0 : Rep v0 (x0 * y0 + x2 * y4 + x4 * y2 - x1 * y1 - x2 * y5 - x3 * y4 - x3 * y5 - x4 * y3 - x5 * y2 - x5 * y3)) (rv1 : Rep v1 (x0 * y1 + x1 * y0 + x2 * y4 + x2 * y5 + x3 * y4 + x4 * y2 + x4 * y3 + x5 * y2 - x3 * y5 - x5 * y3)) (w : World) :
    Calls Try.prog 56 #[nv 6 [a0, a1, a2, a3, a4, a5], nv 6 [b0, b1, b2, b3, b4, b5]] w (Is (nv 6 [v0, v1]) w) := by
  obtain ⟨z1, bz1, rz1⟩ := rep_of (x2 * y4 - x3 * y5)
  obtain ⟨z2, bz2, rz2⟩ := rep_of (x2 * y5 + x3 * y4)
  obtain ⟨z3, bz3, rz3⟩ := rep_of (x4 * y2 - x5 * y3)
  obtain ⟨z4, bz4, rz4⟩ := rep_of (x4 * y3 + x5 * y2)
  obtain ⟨z5, bz5, rz5⟩ := rep_of (x2 * y4 + x4 * y2 - x3 * y5 - x5 * y3)
  obtain ⟨z6, bz6, rz6⟩ := rep_of (x2 * y5 + x3 * y4 + x4 * y3 + x5 * y2)
  obtain ⟨z7, bz7, rz7⟩ := rep_of (x0 * y0 - x1 * y1)
  obtain ⟨z8, bz8, rz8⟩ := rep_of (x0 * y1 + x1 * y0)
  obtain ⟨z9, bz9, rz9⟩ := rep_of (x2 * y4 + x4 * y2 - x2 * y5 - x3 * y4 - x3 * y5 - x4 * y3 - x5 * y2 - x5 * y3)
  obtain ⟨z10, bz10, rz10⟩ := rep_of (x2 * y4 + x2 * y5 + x3 * y4 + x4 * y2 + x4 * y3 + x5 * y2 - x3 * y5 - x5 * y3)
  go_enter Try.func56, Try.ntmps56
  refine seq_lit ?_
  refine sq_new (a' := ⟨#[nv 6 [a0, a1, a2, a3, a4, a5], nv 6 [b0, b1, b2, b3, b4, b5], .pointer (some ⟨w.heap.size, 0, none⟩), undef, undef, undef, undef, undef, undef, undef, undef, undef, undef, undef, undef, undef, undef, undef, undef, undef, undef, undef, undef, undef, undef], []⟩) (xs := rows 6 [a0, a1, a2, a3, a4, a5]) rfl rfl (ex_boxn (K := 6) (l := [a0, a1, a2, a3, a4, a5]) rfl) ?_
  intro w1 N1 hb1
  have HB2 := below_then (Below.refl w.heap.size w) hb1
  refine sq_new (a' := ⟨#[nv 6 [a0, a1, a2, a3, a4, a5], nv 6 [b0, b1, b2, b3, b4, b5], .pointer (some ⟨w.heap.size, 0, none⟩), .pointer (some ⟨w1.heap.size, 0, none⟩), undef, undef, undef, undef, undef, undef, undef, undef, undef, undef, undef, undef, undef, undef, undef, undef, undef, undef, undef, undef, undef], []⟩) (xs := rows 6 [b0, b1, b2, b3, b4, b5]) rfl rfl (ex_boxn (K := 6) (l := [b0, b1, b2, b3, b4, b5]) rfl) ?_
  intro w3 N3 hb3
  have A4 := N1.keep hb3
  have HB5 := below_then HB2 hb3
  refine sq_new (a' := ⟨#[nv 6 [a0, a1, a2, a3, a4, a5], nv 6 [b0, b1, b2, b3, b4, b5], .pointer (some ⟨w.heap.size, 0, none⟩), .pointer (some ⟨w1.heap.size, 0, none⟩), .pointer (some ⟨w3.heap.size, 0, none⟩), undef, undef, undef, undef, undef, undef, undef, undef, undef, undef, undef, undef, undef, undef, undef, undef, undef, undef, undef, undef], []⟩) (xs := rows 6 [0, 0]) rfl rfl (ex_alloc zFp2) ?_
  intro w7 N7 hb7
  have A8 := A4.keep hb7
  have A9 := N3.keep hb7
  have HB10 := below_then HB5 hb7
  refine seq_nil ?_
  refine wp_seq (wp_region_one (F := fun γ => ⟨#[nv 6 [a0, a1, a2, a3, a4, a5], nv 6 [b0, b1, b2, b3, b4, b5], .pointer (some ⟨w.heap.size, 0, none⟩), .pointer (some ⟨w1.heap.size, 0, none⟩), .pointer (some ⟨w3.heap.size, 0, none⟩), .pointer (some ⟨γ, 0, none⟩), .pointer (some ⟨w.heap.size, 12, none⟩), nv 6 [a2, a3], .pointer (some ⟨w1.heap.size, 24, none⟩), nv 6 [b4, b5], nv 6 [z1, z2], .pointer (some ⟨w.heap.size, 24, none⟩), nv 6 [a4, a5], .pointer (some ⟨w1.heap.size, 12, none⟩), nv 6 [b2, b3], nv 6 [z3, z4], nv 6 [z5, z6], undef, undef, undef, undef, undef, undef, undef, undef], []⟩) 26 6 11 12 [0, 0] [z5, z6] [(5, .pointer (some ⟨0, 0, none⟩)), (6, .pointer (some ⟨w.heap.size, 12, none⟩)), (7, nv 6 [a2, a3]), (8, .pointer (some ⟨w1.heap.size, 24, none⟩)), (9, nv 6 [b4, b5]), (10, nv 6 [z1, z2]), (11, .pointer (some ⟨w.heap.size, 24, none⟩)), (12, nv 6 [a4, a5]), (13, .pointer (some ⟨w1.heap.size, 12, none⟩)), (14, nv 6 [b2, b3]), (15, nv 6 [z3, z4]), (16, nv 6 [z5, z6])] (by kernel_rfl) (by kernel_rfl) (by kernel_rfl) (by kernel_rfl) rfl (by simp only [putAll, List.setIfInBounds_toArray, List.set_cons_zero, List.set_cons_succ]) rfl rfl ?_ ?_)
  · refine GSteps.cons (g1_val (v := .pointer (some ⟨w.heap.size, 12, none⟩)) rfl (fun γ => rfl) (fun γ => rfl) (fun γ W' h => ex_field faFp6_1 rfl) rfl rfl) ?_
    refine GSteps.cons (g1_val (v := nv 6 [a2, a3]) rfl (fun γ => rfl) (fun γ => rfl) (fun γ W' h => ex_loadn (K := 6) (k := 2) (j := 2) (l := [a0, a1, a2, a3, a4, a5]) flFp2 rfl (A8.keep h.out) rfl _ rfl) rfl rfl) ?_
    refine GSteps.cons (g1_val (v := .pointer (some ⟨w1.heap.size, 24, none⟩)) rfl (fun γ => rfl) (fun γ => rfl) (fun γ W' h => ex_field faFp6_2 rfl) rfl rfl) ?_
    refine GSteps.cons (g1_val (v := nv 6 [b4, b5]) rfl (fun γ => rfl) (fun γ => rfl) (fun γ W' h => ex_loadn (K := 6) (k := 4) (j := 2) (l := [b0, b1, b2, b3, b4, b5]) flFp2 rfl (A9.keep h.out) rfl _ rfl) rfl rfl) ?_
    refine GSteps.cons (g1_call (v := nv 6 [z1, z2]) rfl (fun γ => rfl) (fun γ => rfl) (fun γ W' => ex_call (vs := [nv 6 [a2, a3], nv 6 [b4, b5]]) rfl Try.call69 rfl) (fun W' h => duoMul_r ra2 ra3 rb4 rb5 la2 la3 lb4 lb5 bz1 bz2 rz1 rz2 _) rfl rfl) ?_
    refine GSteps.cons (g1_val (v := .pointer (some ⟨w.heap.size, 24, none⟩)) rfl (fun γ => rfl) (fun γ => rfl) (fun γ W' h => ex_field faFp6_2 rfl) rfl rfl) ?_
    refine GSteps.cons (g1_val (v := nv 6 [a4, a5]) rfl (fun γ => rfl) (fun γ => rfl) (fun γ W' h => ex_loadn (K := 6) (k := 4) (j := 2) (l := [a0, a1, a2, a3, a4, a5]) flFp2 rfl (A8.keep h.out) rfl _ rfl) rfl rfl) ?_
    refine GSteps.cons (g1_val (v := .pointer (some ⟨w1.heap.size, 12, none⟩)) rfl (fun γ => rfl) (fun γ => rfl) (fun γ W' h => ex_field faFp6_1 rfl) rfl rfl) ?_
    refine GSteps.cons (g1_val (v := nv 6 [b2, b3]) rfl (fun γ => rfl) (fun γ => rfl) (fun γ W' h => ex_loadn (K := 6) (k := 2) (j := 2) (l := [b0, b1, b2, b3, b4, b5]) flFp2 rfl (A9.keep h.out) rfl _ rfl) rfl rfl) ?_
    refine GSteps.cons (g1_call (v := nv 6 [z3, z4]) rfl (fun γ => rfl) (fun γ => rfl) (fun γ W' => ex_call (vs := [nv 6 [a4, a5], nv 6 [b2, b3]]) rfl Try.call69 rfl) (fun W' h => duoMul_r ra4 ra5 rb2 rb3 la4 la5 lb2 lb3 bz3 bz4 rz3 rz4 _) rfl rfl) ?_
    refine GSteps.cons (g1_call (v := nv 6 [z5, z6]) rfl (fun γ => rfl) (fun γ => rfl) (fun γ W' => ex_call (vs := [nv 6 [z1, z2], nv 6 [z3, z4]]) rfl Try.call62 rfl) (fun W' h => duoAdd_r rz1 rz2 rz3 rz4 (Nat.lt_trans bz1 fpM_lt) (Nat.lt_trans bz2 fpM_lt) (Nat.lt_trans bz3 fpM_lt) (Nat.lt_trans bz4 fpM_lt) bz5 bz6 (rep_to rz5 (sid84 x2 x3 x4 x5 y2 y3 y4 y5)) (rep_to rz6 (sid85 x2 x3 x4 x5 y2 y3 y4 y5)) _) rfl rfl) ?_
    refine GSteps.cons (g1_new (fun γ => rfl) (fun γ n => rfl) (fun γ W' => ex_alloc zFp2) rfl rfl (by kernel_rfl)) ?_
    refine GSteps.cons (g1_store rfl (fun γ => rfl) rfl (fun γ W' hA => ex_storen (K := 6) (l := [0, 0]) (m := [z5, z6]) flFp2 rfl rfl hA rfl) rfl rfl (by kernel_rfl)) ?_
    exact GSteps.nil
  intro g13 w13 hb13 le13 N13
  refine then_n ?_
  have A14 := A8.keep hb13.out
  have A15 := A9.keep hb13.out
  have A16 := N7.keep hb13.out
  have HB17 := below_then HB10 hb13.out
  refine wp_seq (wp_region_last (F := ⟨#[nv 6 [a0, a1, a2, a3, a4, a5], nv 6 [b0, b1, b2, b3, b4, b5], .pointer (some ⟨w.heap.size, 0, none⟩), .pointer (some ⟨w1.heap.size, 0, none⟩), .pointer (some ⟨w3.heap.size, 0, none⟩), .pointer (some ⟨g13, 0, none⟩), .pointer (some ⟨w.heap.size, 12, none⟩), nv 6 [a2, a3], .pointer (some ⟨w1.heap.size, 24, none⟩), nv 6 [b4, b5], nv 6 [z1, z2], .pointer (some ⟨w.heap.size, 24, none⟩), nv 6 [a4, a5], .pointer (some ⟨w1.heap.size, 12, none⟩), nv 6 [b2, b3], nv 6 [z3, z4], nv 6 [z5, z6], .pointer (some ⟨w.heap.size, 0, none⟩), nv 6 [a0, a1], .pointer (some ⟨w1.heap.size, 0, none⟩), nv 6 [b0, b1], nv 6 [z7, z8], nv 6 [z5, z6], nv 6 [z9, z10], nv 6 [v0, v1]], []⟩) (S := Bel w13) [(17, .pointer (some ⟨w.heap.size, 0, none⟩)), (18, nv 6 [a0, a1]), (19, .pointer (some ⟨w1.heap.size, 0, none⟩)), (20, nv 6 [b0, b1]), (21, nv 6 [z7, z8]), (22, nv 6 [z5, z6]), (23, nv 6 [z9, z10]), (24, nv 6 [v0, v1])] 8 _ (by kernel_rfl) (by kernel_rfl) (by kernel_rfl) (by kernel_rfl) rfl rfl (by kernel_rfl) rfl (by simp only [putAll, List.setIfInBounds_toArray, List.set_cons_zero, List.set_cons_succ]) (Bel.start _) ?_ ?_)
  · refine PlanInit.cons (ps_val (v := .pointer (some ⟨w.heap.size, 0, none⟩)) rfl rfl rfl (fun W' h => ex_field faFp6_0 rfl)) ?_
    refine PlanInit.cons (ps_val (v := nv 6 [a0, a1]) rfl rfl rfl (fun W' h => ex_loadn (K := 6) (k := 0) (j := 2) (l := [a0, a1, a2, a3, a4, a5]) flFp2 rfl (A14.keep h.out) rfl _ rfl)) ?_
    refine PlanInit.cons (ps_val (v := .pointer (some ⟨w1.heap.size, 0, none⟩)) rfl rfl rfl (fun W' h => ex_field faFp6_0 rfl)) ?_
    refine PlanInit.cons (ps_val (v := nv 6 [b0, b1]) rfl rfl rfl (fun W' h => ex_loadn (K := 6) (k := 0) (j := 2) (l := [b0, b1, b2, b3, b4, b5]) flFp2 rfl (A15.keep h.out) rfl _ rfl)) ?_
    refine PlanInit.cons (ps_call (v := nv 6 [z7, z8]) rfl rfl rfl (fun W' => ex_call (vs := [nv 6 [a0, a1], nv 6 [b0, b1]]) rfl Try.call69 rfl) (fun W' h => duoMul_r ra0 ra1 rb0 rb1 la0 la1 lb0 lb1 bz7 bz8 rz7 rz8 _)) ?_
    refine PlanInit.cons (ps_val (v := nv 6 [z5, z6]) rfl rfl rfl (fun W' h => ex_loadn (K := 6) (k := 0) (j := 2) (l := [z5, z6]) flFp2 rfl (N13.keep h.out) rfl _ rfl)) ?_
    refine PlanInit.cons (ps_call (v := nv 6 [z9, z10]) rfl rfl rfl (fun W' => ex_call (vs := [nv 6 [z5, z6]]) rfl Try.call52 rfl) (fun W' h => sextwrap_r rz5 rz6 (Nat.lt_trans bz5 fpM_lt) (Nat.lt_trans bz6 fpM_lt) bz9 bz10 (rep_to rz9 (sid86 x2 x3 x4 x5 y2 y3 y4 y5)) (rep_to rz10 (sid87 x2 x3 x4 x5 y2 y3 y4 y5)) _)) ?_
    refine PlanInit.cons (ps_call (v := nv 6 [v0, v1]) rfl rfl rfl (fun W' => ex_call (vs := [nv 6 [z7, z8], nv 6 [z9, z10]]) rfl Try.call62 rfl) (fun W' h => duoAdd_r rz7 rz8 rz9 rz10 (Nat.lt_trans bz7 fpM_lt) (Nat.lt_trans bz8 fpM_lt) (Nat.lt_trans bz9 fpM_lt) (Nat.lt_trans bz10 fpM_lt) bv0 bv1 (rep_to rv0 (sid29 x0 x1 x2 x3 x4 x5 y0 y1 y2 y3 y4 y5)) (rep_to rv1 (sid30 x0 x1 x2 x3 x4 x5 y0 y1 y2 y3 y4 y5)) _)) ?_
    exact PlanInit.one
  refine last_store (t := 26) (xs := rows 6 [0, 0]) (ys := rows 6 [v0, v1]) rfl rfl (fun W' h => A16.keep h.out) (len_rows rfl) (fun W' h => ex_storen (K := 6) (l := [0, 0]) (m := [v0, v1]) flFp2 rfl rfl (A16.keep h.out) rfl) ?_
  intro w18 w19 hb18 N19 hst19 hoth19
  refine then_n ?_
  have A20 := A14.keep hb18.out
  have A21 := A15.keep hb18.out
  have A22 := A16.keep hb18.out
  have A23 := N13.keep hb18.out
  have HB24 := below_then HB17 hb18.out
  have A25 := hoth19 _ _ _ (Nat.ne_of_lt A4.lt) A20
  have A26 := hoth19 _ _ _ (Nat.ne_of_lt N3.lt) A21
  have A27 := hoth19 _ _ _ (Ne.symm (Nat.ne_of_lt (Nat.lt_of_lt_of_le N7.lt le13))) A23
  have HB28 := hst19 _ _ HB24 HB5.size
  exact wp_ret (bodyPost_ret (ret_celln (K := 6) Try.results56 rfl N19 flFp2) rfl ⟨rfl, HB28⟩)

theorem duoInv_r {a0 a1 i : Nat} {x0 x1 y : Int} (ra0 : Rep a0 x0) (ra1 : Rep a1 x1) (ri : Rep i y) (ha0 : a0 < fpB) (ha1 : a1 < fpB) (hi : i = pInv (pAdd (pMul a0 a0) (pMul a1 a1))) {v0 v1 : Nat} (bv0 : v0 < pN) (bv1 : v1 < pN) (rv0 : Rep v0 (x0 * y)) (rv1 : Rep v1 (-x1 * y)) (w : World) :
    Calls Try.prog 55 #[nv 6 [a0, a1]] w (Is (nv 6 [v0, v1]) w) :=
  duoInv_e a0 a1 w ha0 ha1 i hi v0 v1 (rep_uniq bv0 (pMul_P _ _) rv0 (rep_mul (rep_cl ra0) ri) rfl) (rep_uniq bv1 (pMul_P _ _) rv1 (rep_mul (rep_neg ra1) ri) rfl)

set_option maxRecDepth 20000 in
set_option maxHeartbeats 4000000 in
theorem sextInv_r {a0 a1 a2 a3 a4 a5 : Nat} {x0 x1 x2 x3 x4 x5 o0 o1 o2 o3 o4 o5 n0 n1 i : Int} (ra0 : Rep a0 x0) (ra1 : Rep a1 x1) (ra2 : Rep a2 x2) (ra3 : Rep a3 x3) (ra4 : Rep a4 x4) (ra5 : Rep a5 x5) (ha0 : a0 < fpB) (ha1 : a1 < fpB) (ha2 : a2 < fpB) (ha3 : a3 < fpB) (ha4 : a4 < fpB) (ha5 : a5 < fpB) (eo0 : o0 = x0 * x0 + x2 * x5 + x3 * x4 + x3 * x5 - x1 * x1 - x2 * x4) (eo1 : o1 = 2 * x0 * x1 + x3 * x5 - x2 * x4 - x2 * x5 - x3 * x4) (eo2 : o2 = x1 * x3 + x4 * x4 - x0 * x2 - 2 * x4 * x5 - x5 * x5) (eo3 : o3 = x4 * x4 + 2 * x4 * x5 - x0 * x3 - x1 * x2 - x5 * x5) (eo4 : o4 = x1 * x5 + x2 * x2 - x0 * x4 - x3 * x3) (eo5 : o5 = 2 * x2 * x3 - x0 * x5 - x1 * x4) (en0 : n0 = x0 * o0 + x2 * o4 + x4 * o2 - x1 * o1 - x2 * o5 - x3 * o4 - x3 * o5 - x4 * o3 - x5 * o2 - x5 * o3) (en1 : n1 = x0 * o1 + x1 * o0 + x2 * o4 + x2 * o5 + x3 * o4 + x4 * o2 + x4 * o3 + x5 * o2 - x3 * o5 - x5 * o3) {m0 m1 j : Nat} (bm0 : m0 < pN) (bm1 : m1 < pN) (rm0 : Rep m0 n0) (rm1 : Rep m1 n1) (hj : j = pInv (pAdd (pMul m0 m0) (pMul m1 m1))) (rj : Rep j i) {v0 v1 v2 v3 v4 v5 : Nat} (bv0 : v0 < pN) (bv1 : v1 < pN) (bv2 : v2 < pN) (bv3 : v3 < pN) (bv4 : v4 < pN) (bv5 : v5 < pN) (rv0 : Rep v0 (o0 * (n0 * i) - o1 * (-n1 * i))) (rv1 : Rep v1 (o0 * (-n1 * i) + o1 * (n0 * i))) (rv2 : Rep v2 (o2 * (n0 * i) - o3 * (-n1 * i))) (rv3 : Rep v3 (o2 * (-n1 * i) + o3 * (n0 * i))) (rv4 : Rep v4 (o4 * (n0 * i) - o5 * (-n1 * i))) (rv5 : Rep v5 (o4 * (-n1 * i) + o5 * (n0 * i))) (w : World) :
    Calls Try.prog 34 #[nv 6 [a0, a1, a2, a3, a4, a5]] w (Is (nv 6 [v0, v1, v2, v3, v4, v5]) w) := by
  obtain ⟨g0, bg0, rg0⟩ := rep_of o0
  obtain ⟨g1, bg1, rg1⟩ := rep_of o1
  obtain ⟨g2, bg2, rg2⟩ := rep_of o2
  obtain ⟨g3, bg3, rg3⟩ := rep_of o3
  obtain ⟨g4, bg4, rg4⟩ := rep_of o4
  obtain ⟨g5, bg5, rg5⟩ := rep_of o5
  obtain ⟨k0, bk0, rk0⟩ := rep_of (n0 * i)
  obtain ⟨k1, bk1, rk1⟩ := rep_of (-n1 * i)
  go_enter Try.func34, Try.ntmps34
  refine seq_lit ?_
  refine sq_new (a' := ⟨#[nv 6 [a0, a1, a2, a3, a4, a5], .pointer (some ⟨w.heap.size, 0, none⟩), undef, undef, undef, undef, undef, undef, undef, undef, undef, undef], []⟩) (xs := rows 6 [a0, a1, a2, a3, a4, a5]) rfl rfl (ex_boxn (K := 6) (l := [a0, a1, a2, a3, a4, a5]) rfl) ?_
  intro w1 N1 hb1
  have HB2 := below_then (Below.refl w.heap.size w) hb1
  refine sq_new (a' := ⟨#[nv 6 [a0, a1, a2, a3, a4, a5], .pointer (some ⟨w.heap.size, 0, none⟩), .pointer (some ⟨w1.heap.size, 0, none⟩), undef, undef, undef, undef, undef, undef, undef, undef, undef], []⟩) (xs := rows 6 [0, 0, 0, 0, 0, 0]) rfl rfl (ex_alloc zFp6) ?_
  intro w3 N3 hb3
  have A4 := N1.keep hb3
  have HB5 := below_then HB2 hb3
  refine seq_nil ?_
  refine seq_lit ?_
  refine sq_val (a' := ⟨#[nv 6 [a0, a1, a2, a3, a4, a5], .pointer (some ⟨w.heap.size, 0, none⟩), .pointer (some ⟨w1.heap.size, 0, none⟩), undef, nv 6 [a0, a1, a2, a3, a4, a5], undef, undef, undef, undef, undef, undef, undef], []⟩) (v := nv 6 [a0, a1, a2, a3, a4, a5]) rfl rfl (ex_loadn (K := 6) (k := 0) (j := 6) (l := [a0, a1, a2, a3, a4, a5]) flFp6 rfl A4 rfl _ rfl) ?_
  refine sq_call (a' := ⟨#[nv 6 [a0, a1, a2, a3, a4, a5], .pointer (some ⟨w.heap.size, 0, none⟩), .pointer (some ⟨w1.heap.size, 0, none⟩), undef, nv 6 [a0, a1, a2, a3, a4, a5], nv 6 [g0, g1, g2, g3, g4, g5], undef, undef, undef, undef, undef, undef], []⟩) (v := nv 6 [g0, g1, g2, g3, g4, g5]) rfl rfl (ex_call (vs := [nv 6 [a0, a1, a2, a3, a4, a5]]) rfl Try.call54 rfl) (sextcofactor_r ra0 ra1 ra2 ra3 ra4 ra5 ha0 ha1 ha2 ha3 ha4 ha5 bg0 bg1 bg2 bg3 bg4 bg5 (rep_to rg0 eo0) (rep_to rg1 eo1) (rep_to rg2 eo2) (rep_to rg3 eo3) (rep_to rg4 eo4) (rep_to rg5 eo5) _) ?_
  intro w7 hb7
  have A8 := A4.keep hb7
  have A9 := N3.keep hb7
  have HB10 := below_then HB5 hb7
  refine sq_new (a' := ⟨#[nv 6 [a0, a1, a2, a3, a4, a5], .pointer (some ⟨w.heap.size, 0, none⟩), .pointer (some ⟨w1.heap.size, 0, none⟩), .pointer (some ⟨w7.heap.size, 0, none⟩), nv 6 [a0, a1, a2, a3, a4, a5], nv 6 [g0, g1, g2, g3, g4, g5], undef, undef, undef, undef, undef, undef], []⟩) (xs := rows 6 [0, 0, 0, 0, 0, 0]) rfl rfl (ex_alloc zFp6) ?_
  intro w11 N11 hb11
  have A12 := A8.keep hb11
  have A13 := A9.keep hb11
  have HB14 := below_then HB10 hb11
  refine sq_store (a' := ⟨#[nv 6 [a0, a1, a2, a3, a4, a5], .pointer (some ⟨w.heap.size, 0, none⟩), .pointer (some ⟨w1.heap.size, 0, none⟩), .pointer (some ⟨w7.heap.size, 0, none⟩), nv 6 [a0, a1, a2, a3, a4, a5], nv 6 [g0, g1, g2, g3, g4, g5], undef, undef, undef, undef, undef, undef], []⟩) (t := 28) (xs := rows 6 [0, 0, 0, 0, 0, 0]) (ys := rows 6 [g0, g1, g2, g3, g4, g5]) rfl rfl N11 (len_rows rfl) (ex_storen (K := 6) (l := [0, 0, 0, 0, 0, 0]) (m := [g0, g1, g2, g3, g4, g5]) flFp6 rfl rfl N11 rfl) ?_
  intro w17 N17 hst17 hoth17
  have A18 := hoth17 _ _ _ (Nat.ne_of_lt A8.lt) A12
  have A19 := hoth17 _ _ _ (Nat.ne_of_lt A9.lt) A13
  have HB20 := hst17 _ _ HB14 HB10.size
  refine seq_nil ?_
  refine wp_seq (wp_region_last (F := ⟨#[nv 6 [a0, a1, a2, a3, a4, a5], .pointer (some ⟨w.heap.size, 0, none⟩), .pointer (some ⟨w1.heap.size, 0, none⟩), .pointer (some ⟨w7.heap.size, 0, none⟩), nv 6 [a0, a1, a2, a3, a4, a5], nv 6 [g0, g1, g2, g3, g4, g5], nv 6 [g0, g1, g2, g3, g4, g5], nv 6 [a0, a1, a2, a3, a4, a5], nv 6 [g0, g1, g2, g3, g4, g5], nv 6 [m0, m1], nv 6 [k0, k1], nv 6 [v0, v1, v2, v3, v4, v5]], []⟩) (S := Bel w17) [(6, nv 6 [g0, g1, g2, g3, g4, g5]), (7, nv 6 [a0, a1, a2, a3, a4, a5]), (8, nv 6 [g0, g1, g2, g3, g4, g5]), (9, nv 6 [m0, m1]), (10, nv 6 [k0, k1]), (11, nv 6 [v0, v1, v2, v3, v4, v5])] 6 _ (by kernel_rfl) (by kernel_rfl) (by kernel_rfl) (by kernel_rfl) rfl rfl (by kernel_rfl) rfl (by simp only [putAll, List.setIfInBounds_toArray, List.set_cons_zero, List.set_cons_succ]) (Bel.start _) ?_ ?_)
  · refine PlanInit.cons (ps_val (v := nv 6 [g0, g1, g2, g3, g4, g5]) rfl rfl rfl (fun W' h => ex_loadn (K := 6) (k := 0) (j := 6) (l := [g0, g1, g2, g3, g4, g5]) flFp6 rfl (N17.keep h.out) rfl _ rfl)) ?_
    refine PlanInit.cons (ps_val (v := nv 6 [a0, a1, a2, a3, a4, a5]) rfl rfl rfl (fun W' h => ex_loadn (K := 6) (k := 0) (j := 6) (l := [a0, a1, a2, a3, a4, a5]) flFp6 rfl (A18.keep h.out) rfl _ rfl)) ?_
    refine PlanInit.cons (ps_val (v := nv 6 [g0, g1, g2, g3, g4, g5]) rfl rfl rfl (fun W' h => ex_loadn (K := 6) (k := 0) (j := 6) (l := [g0, g1, g2, g3, g4, g5]) flFp6 rfl (N17.keep h.out) rfl _ rfl)) ?_
    refine PlanInit.cons (ps_call (v := nv 6 [m0, m1]) rfl rfl rfl (fun W' => ex_call (vs := [nv 6 [a0, a1, a2, a3, a4, a5], nv 6 [g0, g1, g2, g3, g4, g5]]) rfl Try.call56 rfl) (fun W' h => sextnorm_r ra0 ra1 ra2 ra3 ra4 ra5 rg0 rg1 rg2 rg3 rg4 rg5 ha0 ha1 ha2 ha3 ha4 ha5 (Nat.lt_trans bg0 fpM_lt) (Nat.lt_trans bg1 fpM_lt) (Nat.lt_trans bg2 fpM_lt) (Nat.lt_trans bg3 fpM_lt) (Nat.lt_trans bg4 fpM_lt) (Nat.lt_trans bg5 fpM_lt) bm0 bm1 (rep_to rm0 en0) (rep_to rm1 en1) _)) ?_
    refine PlanInit.cons (ps_call (v := nv 6 [k0, k1]) rfl rfl rfl (fun W' => ex_call (vs := [nv 6 [m0, m1]]) rfl Try.call55 rfl) (fun W' h => duoInv_r rm0 rm1 rj (Nat.lt_trans bm0 fpM_lt) (Nat.lt_trans bm1 fpM_lt) hj bk0 bk1 rk0 rk1 _)) ?_
    refine PlanInit.cons (ps_call (v := nv 6 [v0, v1, v2, v3, v4, v5]) rfl rfl rfl (fun W' => ex_call (vs := [nv 6 [g0, g1, g2, g3, g4, g5], nv 6 [k0, k1]]) rfl Try.call51 rfl) (fun W' h => sextscale_r rg0 rg1 rg2 rg3 rg4 rg5 rk0 rk1 (Nat.lt_trans bg0 fpM_lt) (Nat.lt_trans bg1 fpM_lt) (Nat.lt_trans bg2 fpM_lt) (Nat.lt_trans bg3 fpM_lt) (Nat.lt_trans bg4 fpM_lt) (Nat.lt_trans bg5 fpM_lt) (Nat.lt_trans bk0 fpM_lt) (Nat.lt_trans bk1 fpM_lt) bv0 bv1 bv2 bv3 bv4 bv5 rv0 rv1 rv2 rv3 rv4 rv5 _)) ?_
    exact PlanInit.one
  refine last_store (t := 28) (xs := rows 6 [0, 0, 0, 0, 0, 0]) (ys := rows 6 [v0, v1, v2, v3, v4, v5]) rfl rfl (fun W' h => A19.keep h.out) (len_rows rfl) (fun W' h => ex_storen (K := 6) (l := [0, 0, 0, 0, 0, 0]) (m := [v0, v1, v2, v3, v4, v5]) flFp6 rfl rfl (A19.keep h.out) rfl) ?_
  intro w21 w22 hb21 N22 hst22 hoth22
  refine then_n ?_
  have A23 := A18.keep hb21.out
  have A24 := A19.keep hb21.out
  have A25 := N17.keep hb21.out
  have HB26 := below_then HB20 hb21.out
  have A27 := hoth22 _ _ _ (Nat.ne_of_lt N1.lt) A23
  have A28 := hoth22 _ _ _ (Ne.symm (Nat.ne_of_lt A9.lt)) A25
  have HB29 := hst22 _ _ HB26 HB2.size
  exact wp_ret (bodyPost_ret (ret_celln (K := 6) Try.results34 rfl N22 flFp6) rfl ⟨rfl, HB29⟩)
end Go.Proofs.Ytodabjelnllkgaa

/- What is proved here: what the functions of package sext and of its reference answer, by numbers that stand for whole numbers modulo p. -/
import Derived.Test.YtodabjelnllkgaaTySext
namespace Go.Proofs.Ytodabjelnllkgaa
open Go.RowKit

theorem duoClean_r {a0 a1 : Nat} {x0 x1 : Int} (ra0 : Rep a0 x0) (ra1 : Rep a1 x1) (la0 : a0 < fpB) (la1 : a1 < fpB) {v0 v1 : Nat} (bv0 : v0 < pN) (bv1 : v1 < pN) (rv0 : Rep v0 (x0)) (rv1 : Rep v1 (x1)) (w : World) :
    Calls Try.prog 61 #[nv 6 [a0, a1]] w (Is (nv 6 [v0, v1]) w) :=
  duoClean_e a0 a1 w la0 la1 v0 v1 (rep_uniq bv0 (pCl_P _) rv0 (rep_cl ra0) rfl) (rep_uniq bv1 (pCl_P _) rv1 (rep_cl ra1) rfl)

theorem duoNeg_r {a0 a1 : Nat} {x0 x1 : Int} (ra0 : Rep a0 x0) (ra1 : Rep a1 x1) (la0 : a0 < fpB) (la1 : a1 < fpB) {v0 v1 : Nat} (bv0 : v0 < pN) (bv1 : v1 < pN) (rv0 : Rep v0 (-x0)) (rv1 : Rep v1 (-x1)) (w : World) :
    Calls Try.prog 64 #[nv 6 [a0, a1]] w (Is (nv 6 [v0, v1]) w) :=
  duoNeg_e a0 a1 w la0 la1 v0 v1 (rep_uniq bv0 (pNeg_P _) rv0 (rep_neg ra0) rfl) (rep_uniq bv1 (pNeg_P _) rv1 (rep_neg ra1) rfl)

theorem duoAdd_r {a0 a1 b0 b1 : Nat} {x0 x1 y0 y1 : Int} (ra0 : Rep a0 x0) (ra1 : Rep a1 x1) (rb0 : Rep b0 y0) (rb1 : Rep b1 y1) (la0 : a0 < fpB) (la1 : a1 < fpB) (lb0 : b0 < fpB) (lb1 : b1 < fpB) {v0 v1 : Nat} (bv0 : v0 < pN) (bv1 : v1 < pN) (rv0 : Rep v0 (x0 + y0)) (rv1 : Rep v1 (x1 + y1)) (w : World) :
    Calls Try.prog 62 #[nv 6 [a0, a1], nv 6 [b0, b1]] w (Is (nv 6 [v0, v1]) w) :=
  duoAdd_e a0 a1 b0 b1 w la0 la1 lb0 lb1 v0 v1 (rep_uniq bv0 (pAdd_P _ _) rv0 (rep_add ra0 rb0) rfl) (rep_uniq bv1 (pAdd_P _ _) rv1 (rep_add ra1 rb1) rfl)

theorem r5Clean_r {a0 a1 : Nat} {x0 x1 : Int} (ra0 : Rep a0 x0) (ra1 : Rep a1 x1) (la0 : a0 < fpB) (la1 : a1 < fpB) {v0 v1 : Nat} (bv0 : v0 < pN) (bv1 : v1 < pN) (rv0 : Rep v0 (x0)) (rv1 : Rep v1 (x1)) (w : World) :
    Calls Try.prog 42 #[nv 6 [a0, a1]] w (Is (nv 6 [v0, v1]) w) :=
  r5Clean_e a0 a1 w la0 la1 v0 v1 (rep_uniq bv0 (pCl_P _) rv0 (rep_cl ra0) rfl) (rep_uniq bv1 (pCl_P _) rv1 (rep_cl ra1) rfl)

theorem r5Neg_r {a0 a1 : Nat} {x0 x1 : Int} (ra0 : Rep a0 x0) (ra1 : Rep a1 x1) (la0 : a0 < pN) (la1 : a1 < pN) {v0 v1 : Nat} (bv0 : v0 < pN) (bv1 : v1 < pN) (rv0 : Rep v0 (-x0)) (rv1 : Rep v1 (-x1)) (w : World) :
    Calls Try.prog 50 #[nv 6 [a0, a1]] w (Is (nv 6 [v0, v1]) w) :=
  r5Neg_e a0 a1 w la0 la1 v0 v1 (rep_uniq bv0 (pNeg_P _) rv0 (rep_neg ra0) rfl) (rep_uniq bv1 (pNeg_P _) rv1 (rep_neg ra1) rfl)

theorem r5Add_r {a0 a1 b0 b1 : Nat} {x0 x1 y0 y1 : Int} (ra0 : Rep a0 x0) (ra1 : Rep a1 x1) (rb0 : Rep b0 y0) (rb1 : Rep b1 y1) (la0 : a0 < pN) (la1 : a1 < pN) (lb0 : b0 < pN) (lb1 : b1 < pN) {v0 v1 : Nat} (bv0 : v0 < pN) (bv1 : v1 < pN) (rv0 : Rep v0 (x0 + y0)) (rv1 : Rep v1 (x1 + y1)) (w : World) :
    Calls Try.prog 48 #[nv 6 [a0, a1], nv 6 [b0, b1]] w (Is (nv 6 [v0, v1]) w) :=
  r5Add_e a0 a1 b0 b1 w la0 la1 lb0 lb1 v0 v1 (rep_uniq bv0 (pAdd_P _ _) rv0 (rep_add ra0 rb0) rfl) (rep_uniq bv1 (pAdd_P _ _) rv1 (rep_add ra1 rb1) rfl)

set_option maxRecDepth 20000 in
set_option maxHeartbeats 4000000 in
theorem sextall_w (f : FuncId) (hf : ∀ (args : Array Value) (w : World), (callFunc f args).run Try.prog w = .ok (.enter f args) w) (R : Value) (v0 v1 v2 v3 v4 v5 : Nat) (h0 : ∀ w, Calls Try.prog f #[R, .int .i64 0] w (Is (nv 6 [v0, v1]) w)) (h1 : ∀ w, Calls Try.prog f #[R, .int .i64 1] w (Is (nv 6 [v2, v3]) w)) (h2 : ∀ w, Calls Try.prog f #[R, .int .i64 2] w (Is (nv 6 [v4, v5]) w)) (w : World) :
    Calls Try.prog 43 #[.func (.func f) #[R] #[]] w (Is (nv 6 [v0, v1, v2, v3, v4, v5]) w) := by
  go_enter Try.func43, Try.ntmps43
  refine seq_lit ?_
  refine sq_new (a' := ⟨#[.func (.func f) #[R] #[], undef, .pointer (some ⟨w.heap.size, 0, none⟩), undef, undef, undef, undef, undef, undef, undef], []⟩) (xs := rows 6 [0, 0, 0, 0, 0, 0]) rfl rfl (ex_alloc zFp6) ?_
  intro w1 N1 hb1
  have HB2 := below_then (Below.refl w.heap.size w) hb1
  refine seq_nil ?_
  refine seq_lit ?_
  refine sq_val (a' := ⟨#[.func (.func f) #[R] #[], undef, .pointer (some ⟨w.heap.size, 0, none⟩), .func (.func f) #[R] #[], undef, undef, undef, undef, undef, undef], []⟩) (v := .func (.func f) #[R] #[]) rfl rfl (ex_move _) ?_
  refine sq_call (a' := ⟨#[.func (.func f) #[R] #[], undef, .pointer (some ⟨w.heap.size, 0, none⟩), .func (.func f) #[R] #[], nv 6 [v0, v1], undef, undef, undef, undef, undef], []⟩) (v := nv 6 [v0, v1]) rfl rfl (ex_callb (vs := [.int .i64 0]) rfl hf rfl) (h0 _) ?_
  intro w3 hb3
  have A4 := N1.keep hb3
  have HB5 := below_then HB2 hb3
  refine sq_val (a' := ⟨#[.func (.func f) #[R] #[], undef, .pointer (some ⟨w.heap.size, 0, none⟩), .func (.func f) #[R] #[], nv 6 [v0, v1], .func (.func f) #[R] #[], undef, undef, undef, undef], []⟩) (v := .func (.func f) #[R] #[]) rfl rfl (ex_move _) ?_
  refine sq_call (a' := ⟨#[.func (.func f) #[R] #[], undef, .pointer (some ⟨w.heap.size, 0, none⟩), .func (.func f) #[R] #[], nv 6 [v0, v1], .func (.func f) #[R] #[], nv 6 [v2, v3], undef, undef, undef], []⟩) (v := nv 6 [v2, v3]) rfl rfl (ex_callb (vs := [.int .i64 1]) rfl hf rfl) (h1 _) ?_
  intro w6 hb6
  have A7 := A4.keep hb6
  have HB8 := below_then HB5 hb6
  refine sq_val (a' := ⟨#[.func (.func f) #[R] #[], undef, .pointer (some ⟨w.heap.size, 0, none⟩), .func (.func f) #[R] #[], nv 6 [v0, v1], .func (.func f) #[R] #[], nv 6 [v2, v3], .func (.func f) #[R] #[], undef, undef], []⟩) (v := .func (.func f) #[R] #[]) rfl rfl (ex_move _) ?_
  refine sq_call (a' := ⟨#[.func (.func f) #[R] #[], undef, .pointer (some ⟨w.heap.size, 0, none⟩), .func (.func f) #[R] #[], nv 6 [v0, v1], .func (.func f) #[R] #[], nv 6 [v2, v3], .func (.func f) #[R] #[], nv 6 [v4, v5], undef], []⟩) (v := nv 6 [v4, v5]) rfl rfl (ex_callb (vs := [.int .i64 2]) rfl hf rfl) (h2 _) ?_
  intro w9 hb9
  have A10 := A7.keep hb9
  have HB11 := below_then HB8 hb9
  refine sq_val (a' := ⟨#[.func (.func f) #[R] #[], undef, .pointer (some ⟨w.heap.size, 0, none⟩), .func (.func f) #[R] #[], nv 6 [v0, v1], .func (.func f) #[R] #[], nv 6 [v2, v3], .func (.func f) #[R] #[], nv 6 [v4, v5], nv 6 [v0, v1, v2, v3, v4, v5]], []⟩) (v := nv 6 [v0, v1, v2, v3, v4, v5]) rfl rfl (ex_build stFp6 (vs := [(0, nv 6 [v0, v1]), (1, nv 6 [v2, v3]), (2, nv 6 [v4, v5])]) rfl (bdABC v0 v1 v2 v3 v4 v5)) ?_
  refine sq_store (a' := ⟨#[.func (.func f) #[R] #[], undef, .pointer (some ⟨w.heap.size, 0, none⟩), .func (.func f) #[R] #[], nv 6 [v0, v1], .func (.func f) #[R] #[], nv 6 [v2, v3], .func (.func f) #[R] #[], nv 6 [v4, v5], nv 6 [v0, v1, v2, v3, v4, v5]], []⟩) (t := 28) (xs := rows 6 [0, 0, 0, 0, 0, 0]) (ys := rows 6 [v0, v1, v2, v3, v4, v5]) rfl rfl A10 (len_rows rfl) (ex_storen (K := 6) (l := [0, 0, 0, 0, 0, 0]) (m := [v0, v1, v2, v3, v4, v5]) flFp6 rfl rfl A10 rfl) ?_
  intro w12 N12 hst12 hoth12
  have HB13 := hst12 _ _ HB11 (Nat.le_refl _)
  refine seq_nil ?_
  exact wp_ret (bodyPost_ret (ret_celln (K := 6) Try.results43 rfl N12 flFp6) rfl ⟨rfl, HB13⟩)

set_option maxRecDepth 20000 in
set_option maxHeartbeats 4000000 in
theorem sextrow_w (a0 a1 a2 a3 a4 a5 : Nat) (w : World) :
    Calls Try.prog 44 #[nv 6 [a0, a1, a2, a3, a4, a5]] w (Is (nv 6 [a0, a1, a2, a3, a4, a5]) w) := by
  go_enter Try.func44, Try.ntmps44
  refine seq_lit ?_
  refine sq_new (a' := ⟨#[nv 6 [a0, a1, a2, a3, a4, a5], .pointer (some ⟨w.heap.size, 0, none⟩), undef, undef, undef, undef, undef, undef, undef, undef], []⟩) (xs := rows 6 [a0, a1, a2, a3, a4, a5]) rfl rfl (ex_boxn (K := 6) (l := [a0, a1, a2, a3, a4, a5]) rfl) ?_
  intro w1 N1 hb1
  have HB2 := below_then (Below.refl w.heap.size w) hb1
  refine sq_new (a' := ⟨#[nv 6 [a0, a1, a2, a3, a4, a5], .pointer (some ⟨w.heap.size, 0, none⟩), .pointer (some ⟨w1.heap.size, 0, none⟩), undef, undef, undef, undef, undef, undef, undef], []⟩) (xs := rows 6 [0, 0, 0, 0, 0, 0]) rfl rfl (ex_alloc zParts) ?_
  intro w3 N3 hb3
  have A4 := N1.keep hb3
  have HB5 := below_then HB2 hb3
  refine seq_nil ?_
  refine seq_lit ?_
  refine sq_val (a' := ⟨#[nv 6 [a0, a1, a2, a3, a4, a5], .pointer (some ⟨w.heap.size, 0, none⟩), .pointer (some ⟨w1.heap.size, 0, none⟩), .pointer (some ⟨w.heap.size, 0, none⟩), undef, undef, undef, undef, undef, undef], []⟩) (v := .pointer (some ⟨w.heap.size, 0, none⟩)) rfl rfl (ex_field faFp6_0 rfl) ?_
  refine sq_val (a' := ⟨#[nv 6 [a0, a1, a2, a3, a4, a5], .pointer (some ⟨w.heap.size, 0, none⟩), .pointer (some ⟨w1.heap.size, 0, none⟩), .pointer (some ⟨w.heap.size, 0, none⟩), nv 6 [a0, a1], undef, undef, undef, undef, undef], []⟩) (v := nv 6 [a0, a1]) rfl rfl (ex_loadn (K := 6) (k := 0) (j := 2) (l := [a0, a1, a2, a3, a4, a5]) flFp2 rfl A4 rfl _ rfl) ?_
  refine sq_val (a' := ⟨#[nv 6 [a0, a1, a2, a3, a4, a5], .pointer (some ⟨w.heap.size, 0, none⟩), .pointer (some ⟨w1.heap.size, 0, none⟩), .pointer (some ⟨w.heap.size, 0, none⟩), nv 6 [a0, a1], .pointer (some ⟨w.heap.size, 12, none⟩), undef, undef, undef, undef], []⟩) (v := .pointer (some ⟨w.heap.size, 12, none⟩)) rfl rfl (ex_field faFp6_1 rfl) ?_
  refine sq_val (a' := ⟨#[nv 6 [a0, a1, a2, a3, a4, a5], .pointer (some ⟨w.heap.size, 0, none⟩), .pointer (some ⟨w1.heap.size, 0, none⟩), .pointer (some ⟨w.heap.size, 0, none⟩), nv 6 [a0, a1], .pointer (some ⟨w.heap.size, 12, none⟩), nv 6 [a2, a3], undef, undef, undef], []⟩) (v := nv 6 [a2, a3]) rfl rfl (ex_loadn (K := 6) (k := 2) (j := 2) (l := [a0, a1, a2, a3, a4, a5]) flFp2 rfl A4 rfl _ rfl) ?_
  refine sq_val (a' := ⟨#[nv 6 [a0, a1, a2, a3, a4, a5], .pointer (some ⟨w.heap.size, 0, none⟩), .pointer (some ⟨w1.heap.size, 0, none⟩), .pointer (some ⟨w.heap.size, 0, none⟩), nv 6 [a0, a1], .pointer (some ⟨w.heap.size, 12, none⟩), nv 6 [a2, a3], .pointer (some ⟨w.heap.size, 24, none⟩), undef, undef], []⟩) (v := .pointer (some ⟨w.heap.size, 24, none⟩)) rfl rfl (ex_field faFp6_2 rfl) ?_
  refine sq_val (a' := ⟨#[nv 6 [a0, a1, a2, a3, a4, a5], .pointer (some ⟨w.heap.size, 0, none⟩), .pointer (some ⟨w1.heap.size, 0, none⟩), .pointer (some ⟨w.heap.size, 0, none⟩), nv 6 [a0, a1], .pointer (some ⟨w.heap.size, 12, none⟩), nv 6 [a2, a3], .pointer (some ⟨w.heap.size, 24, none⟩), nv 6 [a4, a5], undef], []⟩) (v := nv 6 [a4, a5]) rfl rfl (ex_loadn (K := 6) (k := 4) (j := 2) (l := [a0, a1, a2, a3, a4, a5]) flFp2 rfl A4 rfl _ rfl) ?_
  refine sq_val (a' := ⟨#[nv 6 [a0, a1, a2, a3, a4, a5], .pointer (some ⟨w.heap.size, 0, none⟩), .pointer (some ⟨w1.heap.size, 0, none⟩), .pointer (some ⟨w.heap.size, 0, none⟩), nv 6 [a0, a1], .pointer (some ⟨w.heap.size, 12, none⟩), nv 6 [a2, a3], .pointer (some ⟨w.heap.size, 24, none⟩), nv 6 [a4, a5], nv 6 [a0, a1, a2, a3, a4, a5]], []⟩) (v := nv 6 [a0, a1, a2, a3, a4, a5]) rfl rfl (ex_builda arParts (vs := [(0, nv 6 [a0, a1]), (1, nv 6 [a2, a3]), (2, nv 6 [a4, a5])]) rfl (bdRow a0 a1 a2 a3 a4 a5)) ?_
  refine sq_store (a' := ⟨#[nv 6 [a0, a1, a2, a3, a4, a5], .pointer (some ⟨w.heap.size, 0, none⟩), .pointer (some ⟨w1.heap.size, 0, none⟩), .pointer (some ⟨w.heap.size, 0, none⟩), nv 6 [a0, a1], .pointer (some ⟨w.heap.size, 12, none⟩), nv 6 [a2, a3], .pointer (some ⟨w.heap.size, 24, none⟩), nv 6 [a4, a5], nv 6 [a0, a1, a2, a3, a4, a5]], []⟩) (t := 55) (xs := rows 6 [0, 0, 0, 0, 0, 0]) (ys := rows 6 [a0, a1, a2, a3, a4, a5]) rfl rfl N3 (len_rows rfl) (ex_storen (K := 6) (l := [0, 0, 0, 0, 0, 0]) (m := [a0, a1, a2, a3, a4, a5]) flParts rfl rfl N3 rfl) ?_
  intro w7 N7 hst7 hoth7
  have A8 := hoth7 _ _ _ (Nat.ne_of_lt N1.lt) A4
  have HB9 := hst7 _ _ HB5 HB2.size
  refine seq_nil ?_
  exact wp_ret (bodyPost_ret (ret_celln (K := 6) Try.results44 rfl N7 flParts) rfl ⟨rfl, HB9⟩)

set_option maxRecDepth 20000 in
set_option maxHeartbeats 4000000 in
theorem sextbeside_w (a0 a1 a2 a3 a4 a5 b0 b1 b2 b3 b4 b5 : Nat) (w : World) :
    Calls Try.prog 46 #[nv 6 [a0, a1, a2, a3, a4, a5], nv 6 [b0, b1, b2, b3, b4, b5]] w (Is (nv 6 [a0, a1, a2, a3, a4, a5, b0, b1, b2, b3, b4, b5]) w) := by
  go_enter Try.func46, Try.ntmps46
  refine seq_lit ?_
  refine sq_new (a' := ⟨#[nv 6 [a0, a1, a2, a3, a4, a5], nv 6 [b0, b1, b2, b3, b4, b5], .pointer (some ⟨w.heap.size, 0, none⟩), undef, undef, undef, undef, undef, undef, undef], []⟩) (xs := rows 6 [a0, a1, a2, a3, a4, a5]) rfl rfl (ex_boxn (K := 6) (l := [a0, a1, a2, a3, a4, a5]) rfl) ?_
  intro w1 N1 hb1
  have HB2 := below_then (Below.refl w.heap.size w) hb1
  refine sq_new (a' := ⟨#[nv 6 [a0, a1, a2, a3, a4, a5], nv 6 [b0, b1, b2, b3, b4, b5], .pointer (some ⟨w.heap.size, 0, none⟩), .pointer (some ⟨w1.heap.size, 0, none⟩), undef, undef, undef, undef, undef, undef], []⟩) (xs := rows 6 [b0, b1, b2, b3, b4, b5]) rfl rfl (ex_boxn (K := 6) (l := [b0, b1, b2, b3, b4, b5]) rfl) ?_
  intro w3 N3 hb3
  have A4 := N1.keep hb3
  have HB5 := below_then HB2 hb3
  refine sq_new (a' := ⟨#[nv 6 [a0, a1, a2, a3, a4, a5], nv 6 [b0, b1, b2, b3, b4, b5], .pointer (some ⟨w.heap.size, 0, none⟩), .pointer (some ⟨w1.heap.size, 0, none⟩), .pointer (some ⟨w3.heap.size, 0, none⟩), undef, undef, undef, undef, undef], []⟩) (xs := rows 6 [0, 0, 0, 0, 0, 0, 0, 0, 0, 0, 0, 0]) rfl rfl (ex_alloc zCouple) ?_
  intro w7 N7 hb7
  have A8 := A4.keep hb7
  have A9 := N3.keep hb7
  have HB10 := below_then HB5 hb7
  refine seq_nil ?_
  refine wp_seq (wp_region_last (F := ⟨#[nv 6 [a0, a1, a2, a3, a4, a5], nv 6 [b0, b1, b2, b3, b4, b5], .pointer (some ⟨w.heap.size, 0, none⟩), .pointer (some ⟨w1.heap.size, 0, none⟩), .pointer (some ⟨w3.heap.size, 0, none⟩), nv 6 [a0, a1, a2, a3, a4, a5], nv 6 [a0, a1, a2, a3, a4, a5], nv 6 [b0, b1, b2, b3, b4, b5], nv 6 [b0, b1, b2, b3, b4, b5], nv 6 [a0, a1, a2, a3, a4, a5, b0, b1, b2, b3, b4, b5]], []⟩) (S := Bel w7) [(5, nv 6 [a0, a1, a2, a3, a4, a5]), (6, nv 6 [a0, a1, a2, a3, a4, a5]), (7, nv 6 [b0, b1, b2, b3, b4, b5]), (8, nv 6 [b0, b1, b2, b3, b4, b5]), (9, nv 6 [a0, a1, a2, a3, a4, a5, b0, b1, b2, b3, b4, b5])] 5 _ (by kernel_rfl) (by kernel_rfl) (by kernel_rfl) (by kernel_rfl) rfl rfl (by kernel_rfl) rfl (by simp only [putAll, List.setIfInBounds_toArray, List.set_cons_zero, List.set_cons_succ]) (Bel.start _) ?_ ?_)
  · refine PlanInit.cons (ps_val (v := nv 6 [a0, a1, a2, a3, a4, a5]) rfl rfl rfl (fun W' h => ex_loadn (K := 6) (k := 0) (j := 6) (l := [a0, a1, a2, a3, a4, a5]) flFp6 rfl (A8.keep h.out) rfl _ rfl)) ?_
    refine PlanInit.cons (ps_call (v := nv 6 [a0, a1, a2, a3, a4, a5]) rfl rfl rfl (fun W' => ex_call (vs := [nv 6 [a0, a1, a2, a3, a4, a5]]) rfl Try.call44 rfl) (fun W' h => sextrow_w a0 a1 a2 a3 a4 a5 _)) ?_
    refine PlanInit.cons (ps_val (v := nv 6 [b0, b1, b2, b3, b4, b5]) rfl rfl rfl (fun W' h => ex_loadn (K := 6) (k := 0) (j := 6) (l := [b0, b1, b2, b3, b4, b5]) flFp6 rfl (A9.keep h.out) rfl _ rfl)) ?_
    refine PlanInit.cons (ps_call (v := nv 6 [b0, b1, b2, b3, b4, b5]) rfl rfl rfl (fun W' => ex_call (vs := [nv 6 [b0, b1, b2, b3, b4, b5]]) rfl Try.call44 rfl) (fun W' h => sextrow_w b0 b1 b2 b3 b4 b5 _)) ?_
    refine PlanInit.cons (ps_val (v := nv 6 [a0, a1, a2, a3, a4, a5, b0, b1, b2, b3, b4, b5]) rfl rfl rfl (fun W' h => ex_build stCouple (vs := [(0, nv 6 [a0, a1, a2, a3, a4, a5]), (1, nv 6 [b0, b1, b2, b3, b4, b5])]) rfl (bdXY a0 a1 a2 a3 a4 a5 b0 b1 b2 b3 b4 b5))) ?_
    exact PlanInit.one
  refine last_store (t := 58) (xs := rows 6 [0, 0, 0, 0, 0, 0, 0, 0, 0, 0, 0, 0]) (ys := rows 6 [a0, a1, a2, a3, a4, a5, b0, b1, b2, b3, b4, b5]) rfl rfl (fun W' h => N7.keep h.out) (len_rows rfl) (fun W' h => ex_storen (K := 6) (l := [0, 0, 0, 0, 0, 0, 0, 0, 0, 0, 0, 0]) (m := [a0, a1, a2, a3, a4, a5, b0, b1, b2, b3, b4, b5]) flCouple rfl rfl (N7.keep h.out) rfl) ?_
  intro w13 w14 hb13 N14 hst14 hoth14
  refine then_n ?_
  have A15 := A8.keep hb13.out
  have A16 := A9.keep hb13.out
  have A17 := N7.keep hb13.out
  have HB18 := below_then HB10 hb13.out
  have A19 := hoth14 _ _ _ (Nat.ne_of_lt A4.lt) A15
  have A20 := hoth14 _ _ _ (Nat.ne_of_lt N3.lt) A16
  have HB21 := hst14 _ _ HB18 HB5.size
  exact wp_ret (bodyPost_ret (ret_celln (K := 6) Try.results46 rfl N14 flCouple) rfl ⟨rfl, HB21⟩)

set_option maxRecDepth 20000 in
set_option maxHeartbeats 4000000 in
theorem partsclean_0 (a0 a1 a2 a3 a4 a5 v0 v1 : Nat) (hc : ∀ w, Calls Try.prog 61 #[nv 6 [a0, a1]] w (Is (nv 6 [v0, v1]) w)) (w : World) :
    Calls Try.prog 45 #[nv 6 [a0, a1, a2, a3, a4, a5], .int .i64 0] w (Is (nv 6 [v0, v1]) w) := by
  go_enter Try.func45, Try.ntmps45
  refine seq_lit ?_
  refine sq_new (a' := ⟨#[nv 6 [a0, a1, a2, a3, a4, a5], .int .i64 0, .pointer (some ⟨w.heap.size, 0, none⟩), undef, undef, undef, undef, undef, undef], []⟩) (xs := rows 6 [a0, a1, a2, a3, a4, a5]) rfl rfl (ex_boxn (K := 6) (l := [a0, a1, a2, a3, a4, a5]) rfl) ?_
  intro w1 N1 hb1
  have HB2 := below_then (Below.refl w.heap.size w) hb1
  refine sq_new (a' := ⟨#[nv 6 [a0, a1, a2, a3, a4, a5], .int .i64 0, .pointer (some ⟨w.heap.size, 0, none⟩), undef, .pointer (some ⟨w1.heap.size, 0, none⟩), undef, undef, undef, undef], []⟩) (xs := rows 6 [0, 0]) rfl rfl (ex_alloc zFp2) ?_
  intro w3 N3 hb3
  have A4 := N1.keep hb3
  have HB5 := below_then HB2 hb3
  refine seq_nil ?_
  refine seq_lit ?_
  refine sq_val (a' := ⟨#[nv 6 [a0, a1, a2, a3, a4, a5], .int .i64 0, .pointer (some ⟨w.heap.size, 0, none⟩), undef, .pointer (some ⟨w1.heap.size, 0, none⟩), .int .i64 0, undef, undef, undef], []⟩) (v := .int .i64 0) rfl rfl (ex_move _) ?_
  refine sq_val (a' := ⟨#[nv 6 [a0, a1, a2, a3, a4, a5], .int .i64 0, .pointer (some ⟨w.heap.size, 0, none⟩), undef, .pointer (some ⟨w1.heap.size, 0, none⟩), .int .i64 0, .pointer (some ⟨w.heap.size, 0, none⟩), undef, undef], []⟩) (v := .pointer (some ⟨w.heap.size, 0, none⟩)) rfl rfl (ex_index 0 arParts rfl rfl (by decide)) ?_
  refine sq_val (a' := ⟨#[nv 6 [a0, a1, a2, a3, a4, a5], .int .i64 0, .pointer (some ⟨w.heap.size, 0, none⟩), undef, .pointer (some ⟨w1.heap.size, 0, none⟩), .int .i64 0, .pointer (some ⟨w.heap.size, 0, none⟩), nv 6 [a0, a1], undef], []⟩) (v := nv 6 [a0, a1]) rfl rfl (ex_loadn (K := 6) (k := 0) (j := 2) (l := [a0, a1, a2, a3, a4, a5]) flFp2 rfl A4 rfl _ rfl) ?_
  refine sq_call (a' := ⟨#[nv 6 [a0, a1, a2, a3, a4, a5], .int .i64 0, .pointer (some ⟨w.heap.size, 0, none⟩), undef, .pointer (some ⟨w1.heap.size, 0, none⟩), .int .i64 0, .pointer (some ⟨w.heap.size, 0, none⟩), nv 6 [a0, a1], nv 6 [v0, v1]], []⟩) (v := nv 6 [v0, v1]) rfl rfl (ex_call (vs := [nv 6 [a0, a1]]) rfl Try.call61 rfl) (hc _) ?_
  intro w7 hb7
  have A8 := A4.keep hb7
  have A9 := N3.keep hb7
  have HB10 := below_then HB5 hb7
  refine sq_store (a' := ⟨#[nv 6 [a0, a1, a2, a3, a4, a5], .int .i64 0, .pointer (some ⟨w.heap.size, 0, none⟩), undef, .pointer (some ⟨w1.heap.size, 0, none⟩), .int .i64 0, .pointer (some ⟨w.heap.size, 0, none⟩), nv 6 [a0, a1], nv 6 [v0, v1]], []⟩) (t := 26) (xs := rows 6 [0, 0]) (ys := rows 6 [v0, v1]) rfl rfl A9 (len_rows rfl) (ex_storen (K := 6) (l := [0, 0]) (m := [v0, v1]) flFp2 rfl rfl A9 rfl) ?_
  intro w11 N11 hst11 hoth11
  have A12 := hoth11 _ _ _ (Nat.ne_of_lt N1.lt) A8
  have HB13 := hst11 _ _ HB10 HB2.size
  refine seq_nil ?_
  exact wp_ret (bodyPost_ret (ret_celln (K := 6) Try.results45 rfl N11 flFp2) rfl ⟨rfl, HB13⟩)

set_option maxRecDepth 20000 in
set_option maxHeartbeats 4000000 in
theorem partsclean_1 (a0 a1 a2 a3 a4 a5 v0 v1 : Nat) (hc : ∀ w, Calls Try.prog 61 #[nv 6 [a2, a3]] w (Is (nv 6 [v0, v1]) w)) (w : World) :
    Calls Try.prog 45 #[nv 6 [a0, a1, a2, a3, a4, a5], .int .i64 1] w (Is (nv 6 [v0, v1]) w) := by
  go_enter Try.func45, Try.ntmps45
  refine seq_lit ?_
  refine sq_new (a' := ⟨#[nv 6 [a0, a1, a2, a3, a4, a5], .int .i64 1, .pointer (some ⟨w.heap.size, 0, none⟩), undef, undef, undef, undef, undef, undef], []⟩) (xs := rows 6 [a0, a1, a2, a3, a4, a5]) rfl rfl (ex_boxn (K := 6) (l := [a0, a1, a2, a3, a4, a5]) rfl) ?_
  intro w1 N1 hb1
  have HB2 := below_then (Below.refl w.heap.size w) hb1
  refine sq_new (a' := ⟨#[nv 6 [a0, a1, a2, a3, a4, a5], .int .i64 1, .pointer (some ⟨w.heap.size, 0, none⟩), undef, .pointer (some ⟨w1.heap.size, 0, none⟩), undef, undef, undef, undef], []⟩) (xs := rows 6 [0, 0]) rfl rfl (ex_alloc zFp2) ?_
  intro w3 N3 hb3
  have A4 := N1.keep hb3
  have HB5 := below_then HB2 hb3
  refine seq_nil ?_
  refine seq_lit ?_
  refine sq_val (a' := ⟨#[nv 6 [a0, a1, a2, a3, a4, a5], .int .i64 1, .pointer (some ⟨w.heap.size, 0, none⟩), undef, .pointer (some ⟨w1.heap.size, 0, none⟩), .int .i64 1, undef, undef, undef], []⟩) (v := .int .i64 1) rfl rfl (ex_move _) ?_
  refine sq_val (a' := ⟨#[nv 6 [a0, a1, a2, a3, a4, a5], .int .i64 1, .pointer (some ⟨w.heap.size, 0, none⟩), undef, .pointer (some ⟨w1.heap.size, 0, none⟩), .int .i64 1, .pointer (some ⟨w.heap.size, 12, none⟩), undef, undef], []⟩) (v := .pointer (some ⟨w.heap.size, 12, none⟩)) rfl rfl (ex_index 1 arParts rfl rfl (by decide)) ?_
  refine sq_val (a' := ⟨#[nv 6 [a0, a1, a2, a3, a4, a5], .int .i64 1, .pointer (some ⟨w.heap.size, 0, none⟩), undef, .pointer (some ⟨w1.heap.size, 0, none⟩), .int .i64 1, .pointer (some ⟨w.heap.size, 12, none⟩), nv 6 [a2, a3], undef], []⟩) (v := nv 6 [a2, a3]) rfl rfl (ex_loadn (K := 6) (k := 2) (j := 2) (l := [a0, a1, a2, a3, a4, a5]) flFp2 rfl A4 rfl _ rfl) ?_
  refine sq_call (a' := ⟨#[nv 6 [a0, a1, a2, a3, a4, a5], .int .i64 1, .pointer (some ⟨w.heap.size, 0, none⟩), undef, .pointer (some ⟨w1.heap.size, 0, none⟩), .int .i64 1, .pointer (some ⟨w.heap.size, 12, none⟩), nv 6 [a2, a3], nv 6 [v0, v1]], []⟩) (v := nv 6 [v0, v1]) rfl rfl (ex_call (vs := [nv 6 [a2, a3]]) rfl Try.call61 rfl) (hc _) ?_
  intro w7 hb7
  have A8 := A4.keep hb7
  have A9 := N3.keep hb7
  have HB10 := below_then HB5 hb7
  refine sq_store (a' := ⟨#[nv 6 [a0, a1, a2, a3, a4, a5], .int .i64 1, .pointer (some ⟨w.heap.size, 0, none⟩), undef, .pointer (some ⟨w1.heap.size, 0, none⟩), .int .i64 1, .pointer (some ⟨w.heap.size, 12, none⟩), nv 6 [a2, a3], nv 6 [v0, v1]], []⟩) (t := 26) (xs := rows 6 [0, 0]) (ys := rows 6 [v0, v1]) rfl rfl A9 (len_rows rfl) (ex_storen (K := 6) (l := [0, 0]) (m := [v0, v1]) flFp2 rfl rfl A9 rfl) ?_
  intro w11 N11 hst11 hoth11
  have A12 := hoth11 _ _ _ (Nat.ne_of_lt N1.lt) A8
  have HB13 := hst11 _ _ HB10 HB2.size
  refine seq_nil ?_
  exact wp_ret (bodyPost_ret (ret_celln (K := 6) Try.results45 rfl N11 flFp2) rfl ⟨rfl, HB13⟩)

set_option maxRecDepth 20000 in
set_option maxHeartbeats 4000000 in
theorem partsclean_2 (a0 a1 a2 a3 a4 a5 v0 v1 : Nat) (hc : ∀ w, Calls Try.prog 61 #[nv 6 [a4, a5]] w (Is (nv 6 [v0, v1]) w)) (w : World) :
    Calls Try.prog 45 #[nv 6 [a0, a1, a2, a3, a4, a5], .int .i64 2] w (Is (nv 6 [v0, v1]) w) := by
  go_enter Try.func45, Try.ntmps45
  refine seq_lit ?_
  refine sq_new (a' := ⟨#[nv 6 [a0, a1, a2, a3, a4, a5], .int .i64 2, .pointer (some ⟨w.heap.size, 0, none⟩), undef, undef, undef, undef, undef, undef], []⟩) (xs := rows 6 [a0, a1, a2, a3, a4, a5]) rfl rfl (ex_boxn (K := 6) (l := [a0, a1, a2, a3, a4, a5]) rfl) ?_
  intro w1 N1 hb1
  have HB2 := below_then (Below.refl w.heap.size w) hb1
  refine sq_new (a' := ⟨#[nv 6 [a0, a1, a2, a3, a4, a5], .int .i64 2, .pointer (some ⟨w.heap.size, 0, none⟩), undef, .pointer (some ⟨w1.heap.size, 0, none⟩), undef, undef, undef, undef], []⟩) (xs := rows 6 [0, 0]) rfl rfl (ex_alloc zFp2) ?_
  intro w3 N3 hb3
  have A4 := N1.keep hb3
  have HB5 := below_then HB2 hb3
  refine seq_nil ?_
  refine seq_lit ?_
  refine sq_val (a' := ⟨#[nv 6 [a0, a1, a2, a3, a4, a5], .int .i64 2, .pointer (some ⟨w.heap.size, 0, none⟩), undef, .pointer (some ⟨w1.heap.size, 0, none⟩), .int .i64 2, undef, undef, undef], []⟩) (v := .int .i64 2) rfl rfl (ex_move _) ?_
  refine sq_val (a' := ⟨#[nv 6 [a0, a1, a2, a3, a4, a5], .int .i64 2, .pointer (some ⟨w.heap.size, 0, none⟩), undef, .pointer (some ⟨w1.heap.size, 0, none⟩), .int .i64 2, .pointer (some ⟨w.heap.size, 24, none⟩), undef, undef], []⟩) (v := .pointer (some ⟨w.heap.size, 24, none⟩)) rfl rfl (ex_index 2 arParts rfl rfl (by decide)) ?_
  refine sq_val (a' := ⟨#[nv 6 [a0, a1, a2, a3, a4, a5], .int .i64 2, .pointer (some ⟨w.heap.size, 0, none⟩), undef, .pointer (some ⟨w1.heap.size, 0, none⟩), .int .i64 2, .pointer (some ⟨w.heap.size, 24, none⟩), nv 6 [a4, a5], undef], []⟩) (v := nv 6 [a4, a5]) rfl rfl (ex_loadn (K := 6) (k := 4) (j := 2) (l := [a0, a1, a2, a3, a4, a5]) flFp2 rfl A4 rfl _ rfl) ?_
  refine sq_call (a' := ⟨#[nv 6 [a0, a1, a2, a3, a4, a5], .int .i64 2, .pointer (some ⟨w.heap.size, 0, none⟩), undef, .pointer (some ⟨w1.heap.size, 0, none⟩), .int .i64 2, .pointer (some ⟨w.heap.size, 24, none⟩), nv 6 [a4, a5], nv 6 [v0, v1]], []⟩) (v := nv 6 [v0, v1]) rfl rfl (ex_call (vs := [nv 6 [a4, a5]]) rfl Try.call61 rfl) (hc _) ?_
  intro w7 hb7
  have A8 := A4.keep hb7
  have A9 := N3.keep hb7
  have HB10 := below_then HB5 hb7
  refine sq_store (a' := ⟨#[nv 6 [a0, a1, a2, a3, a4, a5], .int .i64 2, .pointer (some ⟨w.heap.size, 0, none⟩), undef, .pointer (some ⟨w1.heap.size, 0, none⟩), .int .i64 2, .pointer (some ⟨w.heap.size, 24, none⟩), nv 6 [a4, a5], nv 6 [v0, v1]], []⟩) (t := 26) (xs := rows 6 [0, 0]) (ys := rows 6 [v0, v1]) rfl rfl A9 (len_rows rfl) (ex_storen (K := 6) (l := [0, 0]) (m := [v0, v1]) flFp2 rfl rfl A9 rfl) ?_
  intro w11 N11 hst11 hoth11
  have A12 := hoth11 _ _ _ (Nat.ne_of_lt N1.lt) A8
  have HB13 := hst11 _ _ HB10 HB2.size
  refine seq_nil ?_
  exact wp_ret (bodyPost_ret (ret_celln (K := 6) Try.results45 rfl N11 flFp2) rfl ⟨rfl, HB13⟩)

set_option maxRecDepth 20000 in
set_option maxHeartbeats 4000000 in
theorem partsnegative_0 (a0 a1 a2 a3 a4 a5 v0 v1 : Nat) (hc : ∀ w, Calls Try.prog 64 #[nv 6 [a0, a1]] w (Is (nv 6 [v0, v1]) w)) (w : World) :
    Calls Try.prog 49 #[nv 6 [a0, a1, a2, a3, a4, a5], .int .i64 0] w (Is (nv 6 [v0, v1]) w) := by
  go_enter Try.func49, Try.ntmps49
  refine seq_lit ?_
  refine sq_new (a' := ⟨#[nv 6 [a0, a1, a2, a3, a4, a5], .int .i64 0, .pointer (some ⟨w.heap.size, 0, none⟩), undef, undef, undef, undef, undef, undef], []⟩) (xs := rows 6 [a0, a1, a2, a3, a4, a5]) rfl rfl (ex_boxn (K := 6) (l := [a0, a1, a2, a3, a4, a5]) rfl) ?_
  intro w1 N1 hb1
  have HB2 := below_then (Below.refl w.heap.size w) hb1
  refine sq_new (a' := ⟨#[nv 6 [a0, a1, a2, a3, a4, a5], .int .i64 0, .pointer (some ⟨w.heap.size, 0, none⟩), undef, .pointer (some ⟨w1.heap.size, 0, none⟩), undef, undef, undef, undef], []⟩) (xs := rows 6 [0, 0]) rfl rfl (ex_alloc zFp2) ?_
  intro w3 N3 hb3
  have A4 := N1.keep hb3
  have HB5 := below_then HB2 hb3
  refine seq_nil ?_
  refine seq_lit ?_
  refine sq_val (a' := ⟨#[nv 6 [a0, a1, a2, a3, a4, a5], .int .i64 0, .pointer (some ⟨w.heap.size, 0, none⟩), undef, .pointer (some ⟨w1.heap.size, 0, none⟩), .int .i64 0, undef, undef, undef], []⟩) (v := .int .i64 0) rfl rfl (ex_move _) ?_
  refine sq_val (a' := ⟨#[nv 6 [a0, a1, a2, a3, a4, a5], .int .i64 0, .pointer (some ⟨w.heap.size, 0, none⟩), undef, .pointer (some ⟨w1.heap.size, 0, none⟩), .int .i64 0, .pointer (some ⟨w.heap.size, 0, none⟩), undef, undef], []⟩) (v := .pointer (some ⟨w.heap.size, 0, none⟩)) rfl rfl (ex_index 0 arParts rfl rfl (by decide)) ?_
  refine sq_val (a' := ⟨#[nv 6 [a0, a1, a2, a3, a4, a5], .int .i64 0, .pointer (some ⟨w.heap.size, 0, none⟩), undef, .pointer (some ⟨w1.heap.size, 0, none⟩), .int .i64 0, .pointer (some ⟨w.heap.size, 0, none⟩), nv 6 [a0, a1], undef], []⟩) (v := nv 6 [a0, a1]) rfl rfl (ex_loadn (K := 6) (k := 0) (j := 2) (l := [a0, a1, a2, a3, a4, a5]) flFp2 rfl A4 rfl _ rfl) ?_
  refine sq_call (a' := ⟨#[nv 6 [a0, a1, a2, a3, a4, a5], .int .i64 0, .pointer (some ⟨w.heap.size, 0, none⟩), undef, .pointer (some ⟨w1.heap.size, 0, none⟩), .int .i64 0, .pointer (some ⟨w.heap.size, 0, none⟩), nv 6 [a0, a1], nv 6 [v0, v1]], []⟩) (v := nv 6 [v0, v1]) rfl rfl (ex_call (vs := [nv 6 [a0, a1]]) rfl Try.call64 rfl) (hc _) ?_
  intro w7 hb7
  have A8 := A4.keep hb7
  have A9 := N3.keep hb7
  have HB10 := below_then HB5 hb7
  refine sq_store (a' := ⟨#[nv 6 [a0, a1, a2, a3, a4, a5], .int .i64 0, .pointer (some ⟨w.heap.size, 0, none⟩), undef, .pointer (some ⟨w1.heap.size, 0, none⟩), .int .i64 0, .pointer (some ⟨w.heap.size, 0, none⟩), nv 6 [a0, a1], nv 6 [v0, v1]], []⟩) (t := 26) (xs := rows 6 [0, 0]) (ys := rows 6 [v0, v1]) rfl rfl A9 (len_rows rfl) (ex_storen (K := 6) (l := [0, 0]) (m := [v0, v1]) flFp2 rfl rfl A9 rfl) ?_
  intro w11 N11 hst11 hoth11
  have A12 := hoth11 _ _ _ (Nat.ne_of_lt N1.lt) A8
  have HB13 := hst11 _ _ HB10 HB2.size
  refine seq_nil ?_
  exact wp_ret (bodyPost_ret (ret_celln (K := 6) Try.results49 rfl N11 flFp2) rfl ⟨rfl, HB13⟩)

set_option maxRecDepth 20000 in
set_option maxHeartbeats 4000000 in
theorem partsnegative_1 (a0 a1 a2 a3 a4 a5 v0 v1 : Nat) (hc : ∀ w, Calls Try.prog 64 #[nv 6 [a2, a3]] w (Is (nv 6 [v0, v1]) w)) (w : World) :
    Calls Try.prog 49 #[nv 6 [a0, a1, a2, a3, a4, a5], .int .i64 1] w (Is (nv 6 [v0, v1]) w) := by
  go_enter Try.func49, Try.ntmps49
  refine seq_lit ?_
  refine sq_new (a' := ⟨#[nv 6 [a0, a1, a2, a3, a4, a5], .int .i64 1, .pointer (some ⟨w.heap.size, 0, none⟩), undef, undef, undef, undef, undef, undef], []⟩) (xs := rows 6 [a0, a1, a2, a3, a4, a5]) rfl rfl (ex_boxn (K := 6) (l := [a0, a1, a2, a3, a4, a5]) rfl) ?_
  intro w1 N1 hb1
  have HB2 := below_then (Below.refl w.heap.size w) hb1
  refine sq_new (a' := ⟨#[nv 6 [a0, a1, a2, a3, a4, a5], .int .i64 1, .pointer (some ⟨w.heap.size, 0, none⟩), undef, .pointer (some ⟨w1.heap.size, 0, none⟩), undef, undef, undef, undef], []⟩) (xs := rows 6 [0, 0]) rfl rfl (ex_alloc zFp2) ?_
  intro w3 N3 hb3
  have A4 := N1.keep hb3
  have HB5 := below_then HB2 hb3
  refine seq_nil ?_
  refine seq_lit ?_
  refine sq_val (a' := ⟨#[nv 6 [a0, a1, a2, a3, a4, a5], .int .i64 1, .pointer (some ⟨w.heap.size, 0, none⟩), undef, .pointer (some ⟨w1.heap.size, 0, none⟩), .int .i64 1, undef, undef, undef], []⟩) (v := .int .i64 1) rfl rfl (ex_move _) ?_
  refine sq_val (a' := ⟨#[nv 6 [a0, a1, a2, a3, a4, a5], .int .i64 1, .pointer (some ⟨w.heap.size, 0, none⟩), undef, .pointer (some ⟨w1.heap.size, 0, none⟩), .int .i64 1, .pointer (some ⟨w.heap.size, 12, none⟩), undef, undef], []⟩) (v := .pointer (some ⟨w.heap.size, 12, none⟩)) rfl rfl (ex_index 1 arParts rfl rfl (by decide)) ?_
  refine sq_val (a' := ⟨#[nv 6 [a0, a1, a2, a3, a4, a5], .int .i64 1, .pointer (some ⟨w.heap.size, 0, none⟩), undef, .pointer (some ⟨w1.heap.size, 0, none⟩), .int .i64 1, .pointer (some ⟨w.heap.size, 12, none⟩), nv 6 [a2, a3], undef], []⟩) (v := nv 6 [a2, a3]) rfl rfl (ex_loadn (K := 6) (k := 2) (j := 2) (l := [a0, a1, a2, a3, a4, a5]) flFp2 rfl A4 rfl _ rfl) ?_
  refine sq_call (a' := ⟨#[nv 6 [a0, a1, a2, a3, a4, a5], .int .i64 1, .pointer (some ⟨w.heap.size, 0, none⟩), undef, .pointer (some ⟨w1.heap.size, 0, none⟩), .int .i64 1, .pointer (some ⟨w.heap.size, 12, none⟩), nv 6 [a2, a3], nv 6 [v0, v1]], []⟩) (v := nv 6 [v0, v1]) rfl rfl (ex_call (vs := [nv 6 [a2, a3]]) rfl Try.call64 rfl) (hc _) ?_
  intro w7 hb7
  have A8 := A4.keep hb7
  have A9 := N3.keep hb7
  have HB10 := below_then HB5 hb7
  refine sq_store (a' := ⟨#[nv 6 [a0, a1, a2, a3, a4, a5], .int .i64 1, .pointer (some ⟨w.heap.size, 0, none⟩), undef, .pointer (some ⟨w1.heap.size, 0, none⟩), .int .i64 1, .pointer (some ⟨w.heap.size, 12, none⟩), nv 6 [a2, a3], nv 6 [v0, v1]], []⟩) (t := 26) (xs := rows 6 [0, 0]) (ys := rows 6 [v0, v1]) rfl rfl A9 (len_rows rfl) (ex_storen (K := 6) (l := [0, 0]) (m := [v0, v1]) flFp2 rfl rfl A9 rfl) ?_
  intro w11 N11 hst11 hoth11
  have A12 := hoth11 _ _ _ (Nat.ne_of_lt N1.lt) A8
  have HB13 := hst11 _ _ HB10 HB2.size
  refine seq_nil ?_
  exact wp_ret (bodyPost_ret (ret_celln (K := 6) Try.results49 rfl N11 flFp2) rfl ⟨rfl, HB13⟩)

set_option maxRecDepth 20000 in
set_option maxHeartbeats 4000000 in
theorem partsnegative_2 (a0 a1 a2 a3 a4 a5 v0 v1 : Nat) (hc : ∀ w, Calls Try.prog 64 #[nv 6 [a4, a5]] w (Is (nv 6 [v0, v1]) w)) (w : World) :
    Calls Try.prog 49 #[nv 6 [a0, a1, a2, a3, a4, a5], .int .i64 2] w (Is (nv 6 [v0, v1]) w) := by
  go_enter Try.func49, Try.ntmps49
  refine seq_lit ?_
  refine sq_new (a' := ⟨#[nv 6 [a0, a1, a2, a3, a4, a5], .int .i64 2, .pointer (some ⟨w.heap.size, 0, none⟩), undef, undef, undef, undef, undef, undef], []⟩) (xs := rows 6 [a0, a1, a2, a3, a4, a5]) rfl rfl (ex_boxn (K := 6) (l := [a0, a1, a2, a3, a4, a5]) rfl) ?_
  intro w1 N1 hb1
  have HB2 := below_then (Below.refl w.heap.size w) hb1
  refine sq_new (a' := ⟨#[nv 6 [a0, a1, a2, a3, a4, a5], .int .i64 2, .pointer (some ⟨w.heap.size, 0, none⟩), undef, .pointer (some ⟨w1.heap.size, 0, none⟩), undef, undef, undef, undef], []⟩) (xs := rows 6 [0, 0]) rfl rfl (ex_alloc zFp2) ?_
  intro w3 N3 hb3
  have A4 := N1.keep hb3
  have HB5 := below_then HB2 hb3
  refine seq_nil ?_
  refine seq_lit ?_
  refine sq_val (a' := ⟨#[nv 6 [a0, a1, a2, a3, a4, a5], .int .i64 2, .pointer (some ⟨w.heap.size, 0, none⟩), undef, .pointer (some ⟨w1.heap.size, 0, none⟩), .int .i64 2, undef, undef, undef], []⟩) (v := .int .i64 2) rfl rfl (ex_move _) ?_
  refine sq_val (a' := ⟨#[nv 6 [a0, a1, a2, a3, a4, a5], .int .i64 2, .pointer (some ⟨w.heap.size, 0, none⟩), undef, .pointer (some ⟨w1.heap.size, 0, none⟩), .int .i64 2, .pointer (some ⟨w.heap.size, 24, none⟩), undef, undef], []⟩) (v := .pointer (some ⟨w.heap.size, 24, none⟩)) rfl rfl (ex_index 2 arParts rfl rfl (by decide)) ?_
  refine sq_val (a' := ⟨#[nv 6 [a0, a1, a2, a3, a4, a5], .int .i64 2, .pointer (some ⟨w.heap.size, 0, none⟩), undef, .pointer (some ⟨w1.heap.size, 0, none⟩), .int .i64 2, .pointer (some ⟨w.heap.size, 24, none⟩), nv 6 [a4, a5], undef], []⟩) (v := nv 6 [a4, a5]) rfl rfl (ex_loadn (K := 6) (k := 4) (j := 2) (l := [a0, a1, a2, a3, a4, a5]) flFp2 rfl A4 rfl _ rfl) ?_
  refine sq_call (a' := ⟨#[nv 6 [a0, a1, a2, a3, a4, a5], .int .i64 2, .pointer (some ⟨w.heap.size, 0, none⟩), undef, .pointer (some ⟨w1.heap.size, 0, none⟩), .int .i64 2, .pointer (some ⟨w.heap.size, 24, none⟩), nv 6 [a4, a5], nv 6 [v0, v1]], []⟩) (v := nv 6 [v0, v1]) rfl rfl (ex_call (vs := [nv 6 [a4, a5]]) rfl Try.call64 rfl) (hc _) ?_
  intro w7 hb7
  have A8 := A4.keep hb7
  have A9 := N3.keep hb7
  have HB10 := below_then HB5 hb7
  refine sq_store (a' := ⟨#[nv 6 [a0, a1, a2, a3, a4, a5], .int .i64 2, .pointer (some ⟨w.heap.size, 0, none⟩), undef, .pointer (some ⟨w1.heap.size, 0, none⟩), .int .i64 2, .pointer (some ⟨w.heap.size, 24, none⟩), nv 6 [a4, a5], nv 6 [v0, v1]], []⟩) (t := 26) (xs := rows 6 [0, 0]) (ys := rows 6 [v0, v1]) rfl rfl A9 (len_rows rfl) (ex_storen (K := 6) (l := [0, 0]) (m := [v0, v1]) flFp2 rfl rfl A9 rfl) ?_
  intro w11 N11 hst11 hoth11
  have A12 := hoth11 _ _ _ (Nat.ne_of_lt N1.lt) A8
  have HB13 := hst11 _ _ HB10 HB2.size
  refine seq_nil ?_
  exact wp_ret (bodyPost_ret (ret_celln (K := 6) Try.results49 rfl N11 flFp2) rfl ⟨rfl, HB13⟩)

set_option maxRecDepth 20000 in
set_option maxHeartbeats 4000000 in
theorem couplesum_0 (a0 a1 a2 a3 a4 a5 b0 b1 b2 b3 b4 b5 v0 v1 : Nat) (hc : ∀ w, Calls Try.prog 62 #[nv 6 [a0, a1], nv 6 [b0, b1]] w (Is (nv 6 [v0, v1]) w)) (w : World) :
    Calls Try.prog 47 #[nv 6 [a0, a1, a2, a3, a4, a5, b0, b1, b2, b3, b4, b5], .int .i64 0] w (Is (nv 6 [v0, v1]) w) := by
  go_enter Try.func47, Try.ntmps47
  refine seq_lit ?_
  refine sq_new (a' := ⟨#[nv 6 [a0, a1, a2, a3, a4, a5, b0, b1, b2, b3, b4, b5], .int .i64 0, .pointer (some ⟨w.heap.size, 0, none⟩), undef, undef, undef, undef, undef, undef, undef, undef, undef, undef, undef], []⟩) (xs := rows 6 [a0, a1, a2, a3, a4, a5, b0, b1, b2, b3, b4, b5]) rfl rfl (ex_boxn (K := 6) (l := [a0, a1, a2, a3, a4, a5, b0, b1, b2, b3, b4, b5]) rfl) ?_
  intro w1 N1 hb1
  have HB2 := below_then (Below.refl w.heap.size w) hb1
  refine sq_new (a' := ⟨#[nv 6 [a0, a1, a2, a3, a4, a5, b0, b1, b2, b3, b4, b5], .int .i64 0, .pointer (some ⟨w.heap.size, 0, none⟩), undef, .pointer (some ⟨w1.heap.size, 0, none⟩), undef, undef, undef, undef, undef, undef, undef, undef, undef], []⟩) (xs := rows 6 [0, 0]) rfl rfl (ex_alloc zFp2) ?_
  intro w3 N3 hb3
  have A4 := N1.keep hb3
  have HB5 := below_then HB2 hb3
  refine seq_nil ?_
  refine wp_seq (wp_region_last (F := ⟨#[nv 6 [a0, a1, a2, a3, a4, a5, b0, b1, b2, b3, b4, b5], .int .i64 0, .pointer (some ⟨w.heap.size, 0, none⟩), undef, .pointer (some ⟨w1.heap.size, 0, none⟩), .int .i64 0, .pointer (some ⟨w.heap.size, 0, none⟩), .pointer (some ⟨w.heap.size, 0, none⟩), nv 6 [a0, a1], .int .i64 0, .pointer (some ⟨w.heap.size, 36, none⟩), .pointer (some ⟨w.heap.size, 36, none⟩), nv 6 [b0, b1], nv 6 [v0, v1]], []⟩) (S := Bel w3) [(5, .int .i64 0), (6, .pointer (some ⟨w.heap.size, 0, none⟩)), (7, .pointer (some ⟨w.heap.size, 0, none⟩)), (8, nv 6 [a0, a1]), (9, .int .i64 0), (10, .pointer (some ⟨w.heap.size, 36, none⟩)), (11, .pointer (some ⟨w.heap.size, 36, none⟩)), (12, nv 6 [b0, b1]), (13, nv 6 [v0, v1])] 9 _ (by kernel_rfl) (by kernel_rfl) (by kernel_rfl) (by kernel_rfl) rfl rfl (by kernel_rfl) rfl (by simp only [putAll, List.setIfInBounds_toArray, List.set_cons_zero, List.set_cons_succ]) (Bel.start _) ?_ ?_)
  · refine PlanInit.cons (ps_val (v := .int .i64 0) rfl rfl rfl (fun W' h => ex_move _)) ?_
    refine PlanInit.cons (ps_val (v := .pointer (some ⟨w.heap.size, 0, none⟩)) rfl rfl rfl (fun W' h => ex_field faCouple_0 rfl)) ?_
    refine PlanInit.cons (ps_val (v := .pointer (some ⟨w.heap.size, 0, none⟩)) rfl rfl rfl (fun W' h => ex_index 0 arParts rfl rfl (by decide))) ?_
    refine PlanInit.cons (ps_val (v := nv 6 [a0, a1]) rfl rfl rfl (fun W' h => ex_loadn (K := 6) (k := 0) (j := 2) (l := [a0, a1, a2, a3, a4, a5, b0, b1, b2, b3, b4, b5]) flFp2 rfl (A4.keep h.out) rfl _ rfl)) ?_
    refine PlanInit.cons (ps_val (v := .int .i64 0) rfl rfl rfl (fun W' h => ex_move _)) ?_
    refine PlanInit.cons (ps_val (v := .pointer (some ⟨w.heap.size, 36, none⟩)) rfl rfl rfl (fun W' h => ex_field faCouple_1 rfl)) ?_
    refine PlanInit.cons (ps_val (v := .pointer (some ⟨w.heap.size, 36, none⟩)) rfl rfl rfl (fun W' h => ex_index 0 arParts rfl rfl (by decide))) ?_
    refine PlanInit.cons (ps_val (v := nv 6 [b0, b1]) rfl rfl rfl (fun W' h => ex_loadn (K := 6) (k := 6) (j := 2) (l := [a0, a1, a2, a3, a4, a5, b0, b1, b2, b3, b4, b5]) flFp2 rfl (A4.keep h.out) rfl _ rfl)) ?_
    refine PlanInit.cons (ps_call (v := nv 6 [v0, v1]) rfl rfl rfl (fun W' => ex_call (vs := [nv 6 [a0, a1], nv 6 [b0, b1]]) rfl Try.call62 rfl) (fun W' h => hc _)) ?_
    exact PlanInit.one
  refine last_store (t := 26) (xs := rows 6 [0, 0]) (ys := rows 6 [v0, v1]) rfl rfl (fun W' h => N3.keep h.out) (len_rows rfl) (fun W' h => ex_storen (K := 6) (l := [0, 0]) (m := [v0, v1]) flFp2 rfl rfl (N3.keep h.out) rfl) ?_
  intro w7 w8 hb7 N8 hst8 hoth8
  refine then_n ?_
  have A9 := A4.keep hb7.out
  have A10 := N3.keep hb7.out
  have HB11 := below_then HB5 hb7.out
  have A12 := hoth8 _ _ _ (Nat.ne_of_lt N1.lt) A9
  have HB13 := hst8 _ _ HB11 HB2.size
  exact wp_ret (bodyPost_ret (ret_celln (K := 6) Try.results47 rfl N8 flFp2) rfl ⟨rfl, HB13⟩)

set_option maxRecDepth 20000 in
set_option maxHeartbeats 4000000 in
theorem couplesum_1 (a0 a1 a2 a3 a4 a5 b0 b1 b2 b3 b4 b5 v0 v1 : Nat) (hc : ∀ w, Calls Try.prog 62 #[nv 6 [a2, a3], nv 6 [b2, b3]] w (Is (nv 6 [v0, v1]) w)) (w : World) :
    Calls Try.prog 47 #[nv 6 [a0, a1, a2, a3, a4, a5, b0, b1, b2, b3, b4, b5], .int .i64 1] w (Is (nv 6 [v0, v1]) w) := by
  go_enter Try.func47, Try.ntmps47
  refine seq_lit ?_
  refine sq_new (a' := ⟨#[nv 6 [a0, a1, a2, a3, a4, a5, b0, b1, b2, b3, b4, b5], .int .i64 1, .pointer (some ⟨w.heap.size, 0, none⟩), undef, undef, undef, undef, undef, undef, undef, undef, undef, undef, undef], []⟩) (xs := rows 6 [a0, a1, a2, a3, a4, a5, b0, b1, b2, b3, b4, b5]) rfl rfl (ex_boxn (K := 6) (l := [a0, a1, a2, a3, a4, a5, b0, b1, b2, b3, b4, b5]) rfl) ?_
  intro w1 N1 hb1
  have HB2 := below_then (Below.refl w.heap.size w) hb1
  refine sq_new (a' := ⟨#[nv 6 [a0, a1, a2, a3, a4, a5, b0, b1, b2, b3, b4, b5], .int .i64 1, .pointer (some ⟨w.heap.size, 0, none⟩), undef, .pointer (some ⟨w1.heap.size, 0, none⟩), undef, undef, undef, undef, undef, undef, undef, undef, undef], []⟩) (xs := rows 6 [0, 0]) rfl rfl (ex_alloc zFp2) ?_
  intro w3 N3 hb3
  have A4 := N1.keep hb3
  have HB5 := below_then HB2 hb3
  refine seq_nil ?_
  refine wp_seq (wp_region_last (F := ⟨#[nv 6 [a0, a1, a2, a3, a4, a5, b0, b1, b2, b3, b4, b5], .int .i64 1, .pointer (some ⟨w.heap.size, 0, none⟩), undef, .pointer (some ⟨w1.heap.size, 0, none⟩), .int .i64 1, .pointer (some ⟨w.heap.size, 0, none⟩), .pointer (some ⟨w.heap.size, 12, none⟩), nv 6 [a2, a3], .int .i64 1, .pointer (some ⟨w.heap.size, 36, none⟩), .pointer (some ⟨w.heap.size, 48, none⟩), nv 6 [b2, b3], nv 6 [v0, v1]], []⟩) (S := Bel w3) [(5, .int .i64 1), (6, .pointer (some ⟨w.heap.size, 0, none⟩)), (7, .pointer (some ⟨w.heap.size, 12, none⟩)), (8, nv 6 [a2, a3]), (9, .int .i64 1), (10, .pointer (some ⟨w.heap.size, 36, none⟩)), (11, .pointer (some ⟨w.heap.size, 48, none⟩)), (12, nv 6 [b2, b3]), (13, nv 6 [v0, v1])] 9 _ (by kernel_rfl) (by kernel_rfl) (by kernel_rfl) (by kernel_rfl) rfl rfl (by kernel_rfl) rfl (by simp only [putAll, List.setIfInBounds_toArray, List.set_cons_zero, List.set_cons_succ]) (Bel.start _) ?_ ?_)
  · refine PlanInit.cons (ps_val (v := .int .i64 1) rfl rfl rfl (fun W' h => ex_move _)) ?_
    refine PlanInit.cons (ps_val (v := .pointer (some ⟨w.heap.size, 0, none⟩)) rfl rfl rfl (fun W' h => ex_field faCouple_0 rfl)) ?_
    refine PlanInit.cons (ps_val (v := .pointer (some ⟨w.heap.size, 12, none⟩)) rfl rfl rfl (fun W' h => ex_index 1 arParts rfl rfl (by decide))) ?_
    refine PlanInit.cons (ps_val (v := nv 6 [a2, a3]) rfl rfl rfl (fun W' h => ex_loadn (K := 6) (k := 2) (j := 2) (l := [a0, a1, a2, a3, a4, a5, b0, b1, b2, b3, b4, b5]) flFp2 rfl (A4.keep h.out) rfl _ rfl)) ?_
    refine PlanInit.cons (ps_val (v := .int .i64 1) rfl rfl rfl (fun W' h => ex_move _)) ?_
    refine PlanInit.cons (ps_val (v := .pointer (some ⟨w.heap.size, 36, none⟩)) rfl rfl rfl (fun W' h => ex_field faCouple_1 rfl)) ?_
    refine PlanInit.cons (ps_val (v := .pointer (some ⟨w.heap.size, 48, none⟩)) rfl rfl rfl (fun W' h => ex_index 1 arParts rfl rfl (by decide))) ?_
    refine PlanInit.cons (ps_val (v := nv 6 [b2, b3]) rfl rfl rfl (fun W' h => ex_loadn (K := 6) (k := 8) (j := 2) (l := [a0, a1, a2, a3, a4, a5, b0, b1, b2, b3, b4, b5]) flFp2 rfl (A4.keep h.out) rfl _ rfl)) ?_
    refine PlanInit.cons (ps_call (v := nv 6 [v0, v1]) rfl rfl rfl (fun W' => ex_call (vs := [nv 6 [a2, a3], nv 6 [b2, b3]]) rfl Try.call62 rfl) (fun W' h => hc _)) ?_
    exact PlanInit.one
  refine last_store (t := 26) (xs := rows 6 [0, 0]) (ys := rows 6 [v0, v1]) rfl rfl (fun W' h => N3.keep h.out) (len_rows rfl) (fun W' h => ex_storen (K := 6) (l := [0, 0]) (m := [v0, v1]) flFp2 rfl rfl (N3.keep h.out) rfl) ?_
  intro w7 w8 hb7 N8 hst8 hoth8
  refine then_n ?_
  have A9 := A4.keep hb7.out
  have A10 := N3.keep hb7.out
  have HB11 := below_then HB5 hb7.out
  have A12 := hoth8 _ _ _ (Nat.ne_of_lt N1.lt) A9
  have HB13 := hst8 _ _ HB11 HB2.size
  exact wp_ret (bodyPost_ret (ret_celln (K := 6) Try.results47 rfl N8 flFp2) rfl ⟨rfl, HB13⟩)

set_option maxRecDepth 20000 in
set_option maxHeartbeats 4000000 in
theorem couplesum_2 (a0 a1 a2 a3 a4 a5 b0 b1 b2 b3 b4 b5 v0 v1 : Nat) (hc : ∀ w, Calls Try.prog 62 #[nv 6 [a4, a5], nv 6 [b4, b5]] w (Is (nv 6 [v0, v1]) w)) (w : World) :
    Calls Try.prog 47 #[nv 6 [a0, a1, a2, a3, a4, a5, b0, b1, b2, b3, b4, b5], .int .i64 2] w (Is (nv 6 [v0, v1]) w) := by
  go_enter Try.func47, Try.ntmps47
  refine seq_lit ?_
  refine sq_new (a' := ⟨#[nv 6 [a0, a1, a2, a3, a4, a5, b0, b1, b2, b3, b4, b5], .int .i64 2, .pointer (some ⟨w.heap.size, 0, none⟩), undef, undef, undef, undef, undef, undef, undef, undef, undef, undef, undef], []⟩) (xs := rows 6 [a0, a1, a2, a3, a4, a5, b0, b1, b2, b3, b4, b5]) rfl rfl (ex_boxn (K := 6) (l := [a0, a1, a2, a3, a4, a5, b0, b1, b2, b3, b4, b5]) rfl) ?_
  intro w1 N1 hb1
  have HB2 := below_then (Below.refl w.heap.size w) hb1
  refine sq_new (a' := ⟨#[nv 6 [a0, a1, a2, a3, a4, a5, b0, b1, b2, b3, b4, b5], .int .i64 2, .pointer (some ⟨w.heap.size, 0, none⟩), undef, .pointer (some ⟨w1.heap.size, 0, none⟩), undef, undef, undef, undef, undef, undef, undef, undef, undef], []⟩) (xs := rows 6 [0, 0]) rfl rfl (ex_alloc zFp2) ?_
  intro w3 N3 hb3
  have A4 := N1.keep hb3
  have HB5 := below_then HB2 hb3
  refine seq_nil ?_
  refine wp_seq (wp_region_last (F := ⟨#[nv 6 [a0, a1, a2, a3, a4, a5, b0, b1, b2, b3, b4, b5], .int .i64 2, .pointer (some ⟨w.heap.size, 0, none⟩), undef, .pointer (some ⟨w1.heap.size, 0, none⟩), .int .i64 2, .pointer (some ⟨w.heap.size, 0, none⟩), .pointer (some ⟨w.heap.size, 24, none⟩), nv 6 [a4, a5], .int .i64 2, .pointer (some ⟨w.heap.size, 36, none⟩), .pointer (some ⟨w.heap.size, 60, none⟩), nv 6 [b4, b5], nv 6 [v0, v1]], []⟩) (S := Bel w3) [(5, .int .i64 2), (6, .pointer (some ⟨w.heap.size, 0, none⟩)), (7, .pointer (some ⟨w.heap.size, 24, none⟩)), (8, nv 6 [a4, a5]), (9, .int .i64 2), (10, .pointer (some ⟨w.heap.size, 36, none⟩)), (11, .pointer (some ⟨w.heap.size, 60, none⟩)), (12, nv 6 [b4, b5]), (13, nv 6 [v0, v1])] 9 _ (by kernel_rfl) (by kernel_rfl) (by kernel_rfl) (by kernel_rfl) rfl rfl (by kernel_rfl) rfl (by simp only [putAll, List.setIfInBounds_toArray, List.set_cons_zero, List.set_cons_succ]) (Bel.start _) ?_ ?_)
  · refine PlanInit.cons (ps_val (v := .int .i64 2) rfl rfl rfl (fun W' h => ex_move _)) ?_
    refine PlanInit.cons (ps_val (v := .pointer (some ⟨w.heap.size, 0, none⟩)) rfl rfl rfl (fun W' h => ex_field faCouple_0 rfl)) ?_
    refine PlanInit.cons (ps_val (v := .pointer (some ⟨w.heap.size, 24, none⟩)) rfl rfl rfl (fun W' h => ex_index 2 arParts rfl rfl (by decide))) ?_
    refine PlanInit.cons (ps_val (v := nv 6 [a4, a5]) rfl rfl rfl (fun W' h => ex_loadn (K := 6) (k := 4) (j := 2) (l := [a0, a1, a2, a3, a4, a5, b0, b1, b2, b3, b4, b5]) flFp2 rfl (A4.keep h.out) rfl _ rfl)) ?_
    refine PlanInit.cons (ps_val (v := .int .i64 2) rfl rfl rfl (fun W' h => ex_move _)) ?_
    refine PlanInit.cons (ps_val (v := .pointer (some ⟨w.heap.size, 36, none⟩)) rfl rfl rfl (fun W' h => ex_field faCouple_1 rfl)) ?_
    refine PlanInit.cons (ps_val (v := .pointer (some ⟨w.heap.size, 60, none⟩)) rfl rfl rfl (fun W' h => ex_index 2 arParts rfl rfl (by decide))) ?_
    refine PlanInit.cons (ps_val (v := nv 6 [b4, b5]) rfl rfl rfl (fun W' h => ex_loadn (K := 6) (k := 10) (j := 2) (l := [a0, a1, a2, a3, a4, a5, b0, b1, b2, b3, b4, b5]) flFp2 rfl (A4.keep h.out) rfl _ rfl)) ?_
    refine PlanInit.cons (ps_call (v := nv 6 [v0, v1]) rfl rfl rfl (fun W' => ex_call (vs := [nv 6 [a4, a5], nv 6 [b4, b5]]) rfl Try.call62 rfl) (fun W' h => hc _)) ?_
    exact PlanInit.one
  refine last_store (t := 26) (xs := rows 6 [0, 0]) (ys := rows 6 [v0, v1]) rfl rfl (fun W' h => N3.keep h.out) (len_rows rfl) (fun W' h => ex_storen (K := 6) (l := [0, 0]) (m := [v0, v1]) flFp2 rfl rfl (N3.keep h.out) rfl) ?_
  intro w7 w8 hb7 N8 hst8 hoth8
  refine then_n ?_
  have A9 := A4.keep hb7.out
  have A10 := N3.keep hb7.out
  have HB11 := below_then HB5 hb7.out
  have A12 := hoth8 _ _ _ (Nat.ne_of_lt N1.lt) A9
  have HB13 := hst8 _ _ HB11 HB2.size
  exact wp_ret (bodyPost_ret (ret_celln (K := 6) Try.results47 rfl N8 flFp2) rfl ⟨rfl, HB13⟩)

set_option maxRecDepth 20000 in
set_option maxHeartbeats 4000000 in
theorem sextClean_w (a0 a1 a2 a3 a4 a5 v0 v1 v2 v3 v4 v5 : Nat) (hc0 : ∀ w, Calls Try.prog 61 #[nv 6 [a0, a1]] w (Is (nv 6 [v0, v1]) w)) (hc1 : ∀ w, Calls Try.prog 61 #[nv 6 [a2, a3]] w (Is (nv 6 [v2, v3]) w)) (hc2 : ∀ w, Calls Try.prog 61 #[nv 6 [a4, a5]] w (Is (nv 6 [v4, v5]) w)) (w : World) :
    Calls Try.prog 25 #[nv 6 [a0, a1, a2, a3, a4, a5]] w (Is (nv 6 [v0, v1, v2, v3, v4, v5]) w) := by
  go_enter Try.func25, Try.ntmps25
  refine seq_lit ?_
  refine sq_new (a' := ⟨#[nv 6 [a0, a1, a2, a3, a4, a5], .pointer (some ⟨w.heap.size, 0, none⟩), undef, undef, undef, undef, undef], []⟩) (xs := rows 6 [a0, a1, a2, a3, a4, a5]) rfl rfl (ex_boxn (K := 6) (l := [a0, a1, a2, a3, a4, a5]) rfl) ?_
  intro w1 N1 hb1
  have HB2 := below_then (Below.refl w.heap.size w) hb1
  refine sq_new (a' := ⟨#[nv 6 [a0, a1, a2, a3, a4, a5], .pointer (some ⟨w.heap.size, 0, none⟩), .pointer (some ⟨w1.heap.size, 0, none⟩), undef, undef, undef, undef], []⟩) (xs := rows 6 [0, 0, 0, 0, 0, 0]) rfl rfl (ex_alloc zFp6) ?_
  intro w3 N3 hb3
  have A4 := N1.keep hb3
  have HB5 := below_then HB2 hb3
  refine seq_nil ?_
  refine seq_lit ?_
  refine sq_val (a' := ⟨#[nv 6 [a0, a1, a2, a3, a4, a5], .pointer (some ⟨w.heap.size, 0, none⟩), .pointer (some ⟨w1.heap.size, 0, none⟩), nv 6 [a0, a1, a2, a3, a4, a5], undef, undef, undef], []⟩) (v := nv 6 [a0, a1, a2, a3, a4, a5]) rfl rfl (ex_loadn (K := 6) (k := 0) (j := 6) (l := [a0, a1, a2, a3, a4, a5]) flFp6 rfl A4 rfl _ rfl) ?_
  refine sq_call (a' := ⟨#[nv 6 [a0, a1, a2, a3, a4, a5], .pointer (some ⟨w.heap.size, 0, none⟩), .pointer (some ⟨w1.heap.size, 0, none⟩), nv 6 [a0, a1, a2, a3, a4, a5], nv 6 [a0, a1, a2, a3, a4, a5], undef, undef], []⟩) (v := nv 6 [a0, a1, a2, a3, a4, a5]) rfl rfl (ex_call (vs := [nv 6 [a0, a1, a2, a3, a4, a5]]) rfl Try.call44 rfl) (sextrow_w a0 a1 a2 a3 a4 a5 _) ?_
  intro w7 hb7
  have A8 := A4.keep hb7
  have A9 := N3.keep hb7
  have HB10 := below_then HB5 hb7
  refine sq_val (a' := ⟨#[nv 6 [a0, a1, a2, a3, a4, a5], .pointer (some ⟨w.heap.size, 0, none⟩), .pointer (some ⟨w1.heap.size, 0, none⟩), nv 6 [a0, a1, a2, a3, a4, a5], nv 6 [a0, a1, a2, a3, a4, a5], .func (.func 45) #[nv 6 [a0, a1, a2, a3, a4, a5]] #[], undef], []⟩) (v := .func (.func 45) #[nv 6 [a0, a1, a2, a3, a4, a5]] #[]) rfl rfl (ex_bind (vs := [nv 6 [a0, a1, a2, a3, a4, a5]]) rfl) ?_
  refine sq_call (a' := ⟨#[nv 6 [a0, a1, a2, a3, a4, a5], .pointer (some ⟨w.heap.size, 0, none⟩), .pointer (some ⟨w1.heap.size, 0, none⟩), nv 6 [a0, a1, a2, a3, a4, a5], nv 6 [a0, a1, a2, a3, a4, a5], .func (.func 45) #[nv 6 [a0, a1, a2, a3, a4, a5]] #[], nv 6 [v0, v1, v2, v3, v4, v5]], []⟩) (v := nv 6 [v0, v1, v2, v3, v4, v5]) rfl rfl (ex_call (vs := [.func (.func 45) #[nv 6 [a0, a1, a2, a3, a4, a5]] #[]]) rfl Try.call43 rfl) (sextall_w _ Try.call45 _ v0 v1 v2 v3 v4 v5 (fun w => partsclean_0 a0 a1 a2 a3 a4 a5 v0 v1 hc0 w) (fun w => partsclean_1 a0 a1 a2 a3 a4 a5 v2 v3 hc1 w) (fun w => partsclean_2 a0 a1 a2 a3 a4 a5 v4 v5 hc2 w) _) ?_
  intro w11 hb11
  have A12 := A8.keep hb11
  have A13 := A9.keep hb11
  have HB14 := below_then HB10 hb11
  refine sq_store (a' := ⟨#[nv 6 [a0, a1, a2, a3, a4, a5], .pointer (some ⟨w.heap.size, 0, none⟩), .pointer (some ⟨w1.heap.size, 0, none⟩), nv 6 [a0, a1, a2, a3, a4, a5], nv 6 [a0, a1, a2, a3, a4, a5], .func (.func 45) #[nv 6 [a0, a1, a2, a3, a4, a5]] #[], nv 6 [v0, v1, v2, v3, v4, v5]], []⟩) (t := 28) (xs := rows 6 [0, 0, 0, 0, 0, 0]) (ys := rows 6 [v0, v1, v2, v3, v4, v5]) rfl rfl A13 (len_rows rfl) (ex_storen (K := 6) (l := [0, 0, 0, 0, 0, 0]) (m := [v0, v1, v2, v3, v4, v5]) flFp6 rfl rfl A13 rfl) ?_
  intro w15 N15 hst15 hoth15
  have A16 := hoth15 _ _ _ (Nat.ne_of_lt N1.lt) A12
  have HB17 := hst15 _ _ HB14 HB2.size
  refine seq_nil ?_
  exact wp_ret (bodyPost_ret (ret_celln (K := 6) Try.results25 rfl N15 flFp6) rfl ⟨rfl, HB17⟩)

set_option maxRecDepth 20000 in
set_option maxHeartbeats 4000000 in
theorem sextNeg_w (a0 a1 a2 a3 a4 a5 v0 v1 v2 v3 v4 v5 : Nat) (hc0 : ∀ w, Calls Try.prog 64 #[nv 6 [a0, a1]] w (Is (nv 6 [v0, v1]) w)) (hc1 : ∀ w, Calls Try.prog 64 #[nv 6 [a2, a3]] w (Is (nv 6 [v2, v3]) w)) (hc2 : ∀ w, Calls Try.prog 64 #[nv 6 [a4, a5]] w (Is (nv 6 [v4, v5]) w)) (w : World) :
    Calls Try.prog 28 #[nv 6 [a0, a1, a2, a3, a4, a5]] w (Is (nv 6 [v0, v1, v2, v3, v4, v5]) w) := by
  go_enter Try.func28, Try.ntmps28
  refine seq_lit ?_
  refine sq_new (a' := ⟨#[nv 6 [a0, a1, a2, a3, a4, a5], .pointer (some ⟨w.heap.size, 0, none⟩), undef, undef, undef, undef, undef], []⟩) (xs := rows 6 [a0, a1, a2, a3, a4, a5]) rfl rfl (ex_boxn (K := 6) (l := [a0, a1, a2, a3, a4, a5]) rfl) ?_
  intro w1 N1 hb1
  have HB2 := below_then (Below.refl w.heap.size w) hb1
  refine sq_new (a' := ⟨#[nv 6 [a0, a1, a2, a3, a4, a5], .pointer (some ⟨w.heap.size, 0, none⟩), .pointer (some ⟨w1.heap.size, 0, none⟩), undef, undef, undef, undef], []⟩) (xs := rows 6 [0, 0, 0, 0, 0, 0]) rfl rfl (ex_alloc zFp6) ?_
  intro w3 N3 hb3
  have A4 := N1.keep hb3
  have HB5 := below_then HB2 hb3
  refine seq_nil ?_
  refine seq_lit ?_
  refine sq_val (a' := ⟨#[nv 6 [a0, a1, a2, a3, a4, a5], .pointer (some ⟨w.heap.size, 0, none⟩), .pointer (some ⟨w1.heap.size, 0, none⟩), nv 6 [a0, a1, a2, a3, a4, a5], undef, undef, undef], []⟩) (v := nv 6 [a0, a1, a2, a3, a4, a5]) rfl rfl (ex_loadn (K := 6) (k := 0) (j := 6) (l := [a0, a1, a2, a3, a4, a5]) flFp6 rfl A4 rfl _ rfl) ?_
  refine sq_call (a' := ⟨#[nv 6 [a0, a1, a2, a3, a4, a5], .pointer (some ⟨w.heap.size, 0, none⟩), .pointer (some ⟨w1.heap.size, 0, none⟩), nv 6 [a0, a1, a2, a3, a4, a5], nv 6 [a0, a1, a2, a3, a4, a5], undef, undef], []⟩) (v := nv 6 [a0, a1, a2, a3, a4, a5]) rfl rfl (ex_call (vs := [nv 6 [a0, a1, a2, a3, a4, a5]]) rfl Try.call44 rfl) (sextrow_w a0 a1 a2 a3 a4 a5 _) ?_
  intro w7 hb7
  have A8 := A4.keep hb7
  have A9 := N3.keep hb7
  have HB10 := below_then HB5 hb7
  refine sq_val (a' := ⟨#[nv 6 [a0, a1, a2, a3, a4, a5], .pointer (some ⟨w.heap.size, 0, none⟩), .pointer (some ⟨w1.heap.size, 0, none⟩), nv 6 [a0, a1, a2, a3, a4, a5], nv 6 [a0, a1, a2, a3, a4, a5], .func (.func 49) #[nv 6 [a0, a1, a2, a3, a4, a5]] #[], undef], []⟩) (v := .func (.func 49) #[nv 6 [a0, a1, a2, a3, a4, a5]] #[]) rfl rfl (ex_bind (vs := [nv 6 [a0, a1, a2, a3, a4, a5]]) rfl) ?_
  refine sq_call (a' := ⟨#[nv 6 [a0, a1, a2, a3, a4, a5], .pointer (some ⟨w.heap.size, 0, none⟩), .pointer (some ⟨w1.heap.size, 0, none⟩), nv 6 [a0, a1, a2, a3, a4, a5], nv 6 [a0, a1, a2, a3, a4, a5], .func (.func 49) #[nv 6 [a0, a1, a2, a3, a4, a5]] #[], nv 6 [v0, v1, v2, v3, v4, v5]], []⟩) (v := nv 6 [v0, v1, v2, v3, v4, v5]) rfl rfl (ex_call (vs := [.func (.func 49) #[nv 6 [a0, a1, a2, a3, a4, a5]] #[]]) rfl Try.call43 rfl) (sextall_w _ Try.call49 _ v0 v1 v2 v3 v4 v5 (fun w => partsnegative_0 a0 a1 a2 a3 a4 a5 v0 v1 hc0 w) (fun w => partsnegative_1 a0 a1 a2 a3 a4 a5 v2 v3 hc1 w) (fun w => partsnegative_2 a0 a1 a2 a3 a4 a5 v4 v5 hc2 w) _) ?_
  intro w11 hb11
  have A12 := A8.keep hb11
  have A13 := A9.keep hb11
  have HB14 := below_then HB10 hb11
  refine sq_store (a' := ⟨#[nv 6 [a0, a1, a2, a3, a4, a5], .pointer (some ⟨w.heap.size, 0, none⟩), .pointer (some ⟨w1.heap.size, 0, none⟩), nv 6 [a0, a1, a2, a3, a4, a5], nv 6 [a0, a1, a2, a3, a4, a5], .func (.func 49) #[nv 6 [a0, a1, a2, a3, a4, a5]] #[], nv 6 [v0, v1, v2, v3, v4, v5]], []⟩) (t := 28) (xs := rows 6 [0, 0, 0, 0, 0, 0]) (ys := rows 6 [v0, v1, v2, v3, v4, v5]) rfl rfl A13 (len_rows rfl) (ex_storen (K := 6) (l := [0, 0, 0, 0, 0, 0]) (m := [v0, v1, v2, v3, v4, v5]) flFp6 rfl rfl A13 rfl) ?_
  intro w15 N15 hst15 hoth15
  have A16 := hoth15 _ _ _ (Nat.ne_of_lt N1.lt) A12
  have HB17 := hst15 _ _ HB14 HB2.size
  refine seq_nil ?_
  exact wp_ret (bodyPost_ret (ret_celln (K := 6) Try.results28 rfl N15 flFp6) rfl ⟨rfl, HB17⟩)

set_option maxRecDepth 20000 in
set_option maxHeartbeats 4000000 in
theorem sextAdd_w (a0 a1 a2 a3 a4 a5 b0 b1 b2 b3 b4 b5 v0 v1 v2 v3 v4 v5 : Nat) (hc0 : ∀ w, Calls Try.prog 62 #[nv 6 [a0, a1], nv 6 [b0, b1]] w (Is (nv 6 [v0, v1]) w)) (hc1 : ∀ w, Calls Try.prog 62 #[nv 6 [a2, a3], nv 6 [b2, b3]] w (Is (nv 6 [v2, v3]) w)) (hc2 : ∀ w, Calls Try.prog 62 #[nv 6 [a4, a5], nv 6 [b4, b5]] w (Is (nv 6 [v4, v5]) w)) (w : World) :
    Calls Try.prog 26 #[nv 6 [a0, a1, a2, a3, a4, a5], nv 6 [b0, b1, b2, b3, b4, b5]] w (Is (nv 6 [v0, v1, v2, v3, v4, v5]) w) := by
  go_enter Try.func26, Try.ntmps26
  refine seq_lit ?_
  refine sq_new (a' := ⟨#[nv 6 [a0, a1, a2, a3, a4, a5], nv 6 [b0, b1, b2, b3, b4, b5], .pointer (some ⟨w.heap.size, 0, none⟩), undef, undef, undef, undef, undef, undef, undef], []⟩) (xs := rows 6 [a0, a1, a2, a3, a4, a5]) rfl rfl (ex_boxn (K := 6) (l := [a0, a1, a2, a3, a4, a5]) rfl) ?_
  intro w1 N1 hb1
  have HB2 := below_then (Below.refl w.heap.size w) hb1
  refine sq_new (a' := ⟨#[nv 6 [a0, a1, a2, a3, a4, a5], nv 6 [b0, b1, b2, b3, b4, b5], .pointer (some ⟨w.heap.size, 0, none⟩), .pointer (some ⟨w1.heap.size, 0, none⟩), undef, undef, undef, undef, undef, undef], []⟩) (xs := rows 6 [b0, b1, b2, b3, b4, b5]) rfl rfl (ex_boxn (K := 6) (l := [b0, b1, b2, b3, b4, b5]) rfl) ?_
  intro w3 N3 hb3
  have A4 := N1.keep hb3
  have HB5 := below_then HB2 hb3
  refine sq_new (a' := ⟨#[nv 6 [a0, a1, a2, a3, a4, a5], nv 6 [b0, b1, b2, b3, b4, b5], .pointer (some ⟨w.heap.size, 0, none⟩), .pointer (some ⟨w1.heap.size, 0, none⟩), .pointer (some ⟨w3.heap.size, 0, none⟩), undef, undef, undef, undef, undef], []⟩) (xs := rows 6 [0, 0, 0, 0, 0, 0]) rfl rfl (ex_alloc zFp6) ?_
  intro w7 N7 hb7
  have A8 := A4.keep hb7
  have A9 := N3.keep hb7
  have HB10 := below_then HB5 hb7
  refine seq_nil ?_
  refine seq_lit ?_
  refine sq_val (a' := ⟨#[nv 6 [a0, a1, a2, a3, a4, a5], nv 6 [b0, b1, b2, b3, b4, b5], .pointer (some ⟨w.heap.size, 0, none⟩), .pointer (some ⟨w1.heap.size, 0, none⟩), .pointer (some ⟨w3.heap.size, 0, none⟩), nv 6 [a0, a1, a2, a3, a4, a5], undef, undef, undef, undef], []⟩) (v := nv 6 [a0, a1, a2, a3, a4, a5]) rfl rfl (ex_loadn (K := 6) (k := 0) (j := 6) (l := [a0, a1, a2, a3, a4, a5]) flFp6 rfl A8 rfl _ rfl) ?_
  refine sq_val (a' := ⟨#[nv 6 [a0, a1, a2, a3, a4, a5], nv 6 [b0, b1, b2, b3, b4, b5], .pointer (some ⟨w.heap.size, 0, none⟩), .pointer (some ⟨w1.heap.size, 0, none⟩), .pointer (some ⟨w3.heap.size, 0, none⟩), nv 6 [a0, a1, a2, a3, a4, a5], nv 6 [b0, b1, b2, b3, b4, b5], undef, undef, undef], []⟩) (v := nv 6 [b0, b1, b2, b3, b4, b5]) rfl rfl (ex_loadn (K := 6) (k := 0) (j := 6) (l := [b0, b1, b2, b3, b4, b5]) flFp6 rfl A9 rfl _ rfl) ?_
  refine sq_call (a' := ⟨#[nv 6 [a0, a1, a2, a3, a4, a5], nv 6 [b0, b1, b2, b3, b4, b5], .pointer (some ⟨w.heap.size, 0, none⟩), .pointer (some ⟨w1.heap.size, 0, none⟩), .pointer (some ⟨w3.heap.size, 0, none⟩), nv 6 [a0, a1, a2, a3, a4, a5], nv 6 [b0, b1, b2, b3, b4, b5], nv 6 [a0, a1, a2, a3, a4, a5, b0, b1, b2, b3, b4, b5], undef, undef], []⟩) (v := nv 6 [a0, a1, a2, a3, a4, a5, b0, b1, b2, b3, b4, b5]) rfl rfl (ex_call (vs := [nv 6 [a0, a1, a2, a3, a4, a5], nv 6 [b0, b1, b2, b3, b4, b5]]) rfl Try.call46 rfl) (sextbeside_w a0 a1 a2 a3 a4 a5 b0 b1 b2 b3 b4 b5 _) ?_
  intro w13 hb13
  have A14 := A8.keep hb13
  have A15 := A9.keep hb13
  have A16 := N7.keep hb13
  have HB17 := below_then HB10 hb13
  refine sq_val (a' := ⟨#[nv 6 [a0, a1, a2, a3, a4, a5], nv 6 [b0, b1, b2, b3, b4, b5], .pointer (some ⟨w.heap.size, 0, none⟩), .pointer (some ⟨w1.heap.size, 0, none⟩), .pointer (some ⟨w3.heap.size, 0, none⟩), nv 6 [a0, a1, a2, a3, a4, a5], nv 6 [b0, b1, b2, b3, b4, b5], nv 6 [a0, a1, a2, a3, a4, a5, b0, b1, b2, b3, b4, b5], .func (.func 47) #[nv 6 [a0, a1, a2, a3, a4, a5, b0, b1, b2, b3, b4, b5]] #[], undef], []⟩) (v := .func (.func 47) #[nv 6 [a0, a1, a2, a3, a4, a5, b0, b1, b2, b3, b4, b5]] #[]) rfl rfl (ex_bind (vs := [nv 6 [a0, a1, a2, a3, a4, a5, b0, b1, b2, b3, b4, b5]]) rfl) ?_
  refine sq_call (a' := ⟨#[nv 6 [a0, a1, a2, a3, a4, a5], nv 6 [b0, b1, b2, b3, b4, b5], .pointer (some ⟨w.heap.size, 0, none⟩), .pointer (some ⟨w1.heap.size, 0, none⟩), .pointer (some ⟨w3.heap.size, 0, none⟩), nv 6 [a0, a1, a2, a3, a4, a5], nv 6 [b0, b1, b2, b3, b4, b5], nv 6 [a0, a1, a2, a3, a4, a5, b0, b1, b2, b3, b4, b5], .func (.func 47) #[nv 6 [a0, a1, a2, a3, a4, a5, b0, b1, b2, b3, b4, b5]] #[], nv 6 [v0, v1, v2, v3, v4, v5]], []⟩) (v := nv 6 [v0, v1, v2, v3, v4, v5]) rfl rfl (ex_call (vs := [.func (.func 47) #[nv 6 [a0, a1, a2, a3, a4, a5, b0, b1, b2, b3, b4, b5]] #[]]) rfl Try.call43 rfl) (sextall_w _ Try.call47 _ v0 v1 v2 v3 v4 v5 (fun w => couplesum_0 a0 a1 a2 a3 a4 a5 b0 b1 b2 b3 b4 b5 v0 v1 hc0 w) (fun w => couplesum_1 a0 a1 a2 a3 a4 a5 b0 b1 b2 b3 b4 b5 v2 v3 hc1 w) (fun w => couplesum_2 a0 a1 a2 a3 a4 a5 b0 b1 b2 b3 b4 b5 v4 v5 hc2 w) _) ?_
  intro w18 hb18
  have A19 := A14.keep hb18
  have A20 := A15.keep hb18
  have A21 := A16.keep hb18
  have HB22 := below_then HB17 hb18
  refine sq_store (a' := ⟨#[nv 6 [a0, a1, a2, a3, a4, a5], nv 6 [b0, b1, b2, b3, b4, b5], .pointer (some ⟨w.heap.size, 0, none⟩), .pointer (some ⟨w1.heap.size, 0, none⟩), .pointer (some ⟨w3.heap.size, 0, none⟩), nv 6 [a0, a1, a2, a3, a4, a5], nv 6 [b0, b1, b2, b3, b4, b5], nv 6 [a0, a1, a2, a3, a4, a5, b0, b1, b2, b3, b4, b5], .func (.func 47) #[nv 6 [a0, a1, a2, a3, a4, a5, b0, b1, b2, b3, b4, b5]] #[], nv 6 [v0, v1, v2, v3, v4, v5]], []⟩) (t := 28) (xs := rows 6 [0, 0, 0, 0, 0, 0]) (ys := rows 6 [v0, v1, v2, v3, v4, v5]) rfl rfl A21 (len_rows rfl) (ex_storen (K := 6) (l := [0, 0, 0, 0, 0, 0]) (m := [v0, v1, v2, v3, v4, v5]) flFp6 rfl rfl A21 rfl) ?_
  intro w23 N23 hst23 hoth23
  have A24 := hoth23 _ _ _ (Nat.ne_of_lt A4.lt) A19
  have A25 := hoth23 _ _ _ (Nat.ne_of_lt N3.lt) A20
  have HB26 := hst23 _ _ HB22 HB5.size
  refine seq_nil ?_
  exact wp_ret (bodyPost_ret (ret_celln (K := 6) Try.results26 rfl N23 flFp6) rfl ⟨rfl, HB26⟩)

set_option maxRecDepth 20000 in
set_option maxHeartbeats 4000000 in
theorem r6Clean_w (a0 a1 a2 a3 a4 a5 v0 v1 v2 v3 v4 v5 : Nat) (hc0 : ∀ w, Calls Try.prog 42 #[nv 6 [a0, a1]] w (Is (nv 6 [v0, v1]) w)) (hc1 : ∀ w, Calls Try.prog 42 #[nv 6 [a2, a3]] w (Is (nv 6 [v2, v3]) w)) (hc2 : ∀ w, Calls Try.prog 42 #[nv 6 [a4, a5]] w (Is (nv 6 [v4, v5]) w)) (w : World) :
    Calls Try.prog 23 #[nv 6 [a0, a1, a2, a3, a4, a5]] w (Is (nv 6 [v0, v1, v2, v3, v4, v5]) w) := by
  go_enter Try.func23, Try.ntmps23
  refine seq_lit ?_
  refine sq_new (a' := ⟨#[nv 6 [a0, a1, a2, a3, a4, a5], .pointer (some ⟨w.heap.size, 0, none⟩), undef, undef, undef, undef, undef, undef, undef, undef, undef, undef, undef], []⟩) (xs := rows 6 [a0, a1, a2, a3, a4, a5]) rfl rfl (ex_boxn (K := 6) (l := [a0, a1, a2, a3, a4, a5]) rfl) ?_
  intro w1 N1 hb1
  have HB2 := below_then (Below.refl w.heap.size w) hb1
  refine sq_new (a' := ⟨#[nv 6 [a0, a1, a2, a3, a4, a5], .pointer (some ⟨w.heap.size, 0, none⟩), .pointer (some ⟨w1.heap.size, 0, none⟩), undef, undef, undef, undef, undef, undef, undef, undef, undef, undef], []⟩) (xs := rows 6 [0, 0, 0, 0, 0, 0]) rfl rfl (ex_alloc zFp6) ?_
  intro w3 N3 hb3
  have A4 := N1.keep hb3
  have HB5 := below_then HB2 hb3
  refine seq_nil ?_
  refine wp_seq (wp_region_last (F := ⟨#[nv 6 [a0, a1, a2, a3, a4, a5], .pointer (some ⟨w.heap.size, 0, none⟩), .pointer (some ⟨w1.heap.size, 0, none⟩), .pointer (some ⟨w.heap.size, 0, none⟩), nv 6 [a0, a1], nv 6 [v0, v1], .pointer (some ⟨w.heap.size, 12, none⟩), nv 6 [a2, a3], nv 6 [v2, v3], .pointer (some ⟨w.heap.size, 24, none⟩), nv 6 [a4, a5], nv 6 [v4, v5], nv 6 [v0, v1, v2, v3, v4, v5]], []⟩) (S := Bel w3) [(3, .pointer (some ⟨w.heap.size, 0, none⟩)), (4, nv 6 [a0, a1]), (5, nv 6 [v0, v1]), (6, .pointer (some ⟨w.heap.size, 12, none⟩)), (7, nv 6 [a2, a3]), (8, nv 6 [v2, v3]), (9, .pointer (some ⟨w.heap.size, 24, none⟩)), (10, nv 6 [a4, a5]), (11, nv 6 [v4, v5]), (12, nv 6 [v0, v1, v2, v3, v4, v5])] 10 _ (by kernel_rfl) (by kernel_rfl) (by kernel_rfl) (by kernel_rfl) rfl rfl (by kernel_rfl) rfl (by simp only [putAll, List.setIfInBounds_toArray, List.set_cons_zero, List.set_cons_succ]) (Bel.start _) ?_ ?_)
  · refine PlanInit.cons (ps_val (v := .pointer (some ⟨w.heap.size, 0, none⟩)) rfl rfl rfl (fun W' h => ex_field faFp6_0 rfl)) ?_
    refine PlanInit.cons (ps_val (v := nv 6 [a0, a1]) rfl rfl rfl (fun W' h => ex_loadn (K := 6) (k := 0) (j := 2) (l := [a0, a1, a2, a3, a4, a5]) flFp2 rfl (A4.keep h.out) rfl _ rfl)) ?_
    refine PlanInit.cons (ps_call (v := nv 6 [v0, v1]) rfl rfl rfl (fun W' => ex_call (vs := [nv 6 [a0, a1]]) rfl Try.call42 rfl) (fun W' h => hc0 _)) ?_
    refine PlanInit.cons (ps_val (v := .pointer (some ⟨w.heap.size, 12, none⟩)) rfl rfl rfl (fun W' h => ex_field faFp6_1 rfl)) ?_
    refine PlanInit.cons (ps_val (v := nv 6 [a2, a3]) rfl rfl rfl (fun W' h => ex_loadn (K := 6) (k := 2) (j := 2) (l := [a0, a1, a2, a3, a4, a5]) flFp2 rfl (A4.keep h.out) rfl _ rfl)) ?_
    refine PlanInit.cons (ps_call (v := nv 6 [v2, v3]) rfl rfl rfl (fun W' => ex_call (vs := [nv 6 [a2, a3]]) rfl Try.call42 rfl) (fun W' h => hc1 _)) ?_
    refine PlanInit.cons (ps_val (v := .pointer (some ⟨w.heap.size, 24, none⟩)) rfl rfl rfl (fun W' h => ex_field faFp6_2 rfl)) ?_
    refine PlanInit.cons (ps_val (v := nv 6 [a4, a5]) rfl rfl rfl (fun W' h => ex_loadn (K := 6) (k := 4) (j := 2) (l := [a0, a1, a2, a3, a4, a5]) flFp2 rfl (A4.keep h.out) rfl _ rfl)) ?_
    refine PlanInit.cons (ps_call (v := nv 6 [v4, v5]) rfl rfl rfl (fun W' => ex_call (vs := [nv 6 [a4, a5]]) rfl Try.call42 rfl) (fun W' h => hc2 _)) ?_
    refine PlanInit.cons (ps_val (v := nv 6 [v0, v1, v2, v3, v4, v5]) rfl rfl rfl (fun W' h => ex_build stFp6 (vs := [(0, nv 6 [v0, v1]), (1, nv 6 [v2, v3]), (2, nv 6 [v4, v5])]) rfl (bdABC v0 v1 v2 v3 v4 v5))) ?_
    exact PlanInit.one
  refine last_store (t := 28) (xs := rows 6 [0, 0, 0, 0, 0, 0]) (ys := rows 6 [v0, v1, v2, v3, v4, v5]) rfl rfl (fun W' h => N3.keep h.out) (len_rows rfl) (fun W' h => ex_storen (K := 6) (l := [0, 0, 0, 0, 0, 0]) (m := [v0, v1, v2, v3, v4, v5]) flFp6 rfl rfl (N3.keep h.out) rfl) ?_
  intro w7 w8 hb7 N8 hst8 hoth8
  refine then_n ?_
  have A9 := A4.keep hb7.out
  have A10 := N3.keep hb7.out
  have HB11 := below_then HB5 hb7.out
  have A12 := hoth8 _ _ _ (Nat.ne_of_lt N1.lt) A9
  have HB13 := hst8 _ _ HB11 HB2.size
  exact wp_ret (bodyPost_ret (ret_celln (K := 6) Try.results23 rfl N8 flFp6) rfl ⟨rfl, HB13⟩)

set_option maxRecDepth 20000 in
set_option maxHeartbeats 4000000 in
theorem r6Neg_w (a0 a1 a2 a3 a4 a5 v0 v1 v2 v3 v4 v5 : Nat) (hc0 : ∀ w, Calls Try.prog 50 #[nv 6 [a0, a1]] w (Is (nv 6 [v0, v1]) w)) (hc1 : ∀ w, Calls Try.prog 50 #[nv 6 [a2, a3]] w (Is (nv 6 [v2, v3]) w)) (hc2 : ∀ w, Calls Try.prog 50 #[nv 6 [a4, a5]] w (Is (nv 6 [v4, v5]) w)) (w : World) :
    Calls Try.prog 29 #[nv 6 [a0, a1, a2, a3, a4, a5]] w (Is (nv 6 [v0, v1, v2, v3, v4, v5]) w) := by
  go_enter Try.func29, Try.ntmps29
  refine seq_lit ?_
  refine sq_new (a' := ⟨#[nv 6 [a0, a1, a2, a3, a4, a5], .pointer (some ⟨w.heap.size, 0, none⟩), undef, undef, undef, undef, undef, undef, undef, undef, undef, undef, undef], []⟩) (xs := rows 6 [a0, a1, a2, a3, a4, a5]) rfl rfl (ex_boxn (K := 6) (l := [a0, a1, a2, a3, a4, a5]) rfl) ?_
  intro w1 N1 hb1
  have HB2 := below_then (Below.refl w.heap.size w) hb1
  refine sq_new (a' := ⟨#[nv 6 [a0, a1, a2, a3, a4, a5], .pointer (some ⟨w.heap.size, 0, none⟩), .pointer (some ⟨w1.heap.size, 0, none⟩), undef, undef, undef, undef, undef, undef, undef, undef, undef, undef], []⟩) (xs := rows 6 [0, 0, 0, 0, 0, 0]) rfl rfl (ex_alloc zFp6) ?_
  intro w3 N3 hb3
  have A4 := N1.keep hb3
  have HB5 := below_then HB2 hb3
  refine seq_nil ?_
  refine wp_seq (wp_region_last (F := ⟨#[nv 6 [a0, a1, a2, a3, a4, a5], .pointer (some ⟨w.heap.size, 0, none⟩), .pointer (some ⟨w1.heap.size, 0, none⟩), .pointer (some ⟨w.heap.size, 0, none⟩), nv 6 [a0, a1], nv 6 [v0, v1], .pointer (some ⟨w.heap.size, 12, none⟩), nv 6 [a2, a3], nv 6 [v2, v3], .pointer (some ⟨w.heap.size, 24, none⟩), nv 6 [a4, a5], nv 6 [v4, v5], nv 6 [v0, v1, v2, v3, v4, v5]], []⟩) (S := Bel w3) [(3, .pointer (some ⟨w.heap.size, 0, none⟩)), (4, nv 6 [a0, a1]), (5, nv 6 [v0, v1]), (6, .pointer (some ⟨w.heap.size, 12, none⟩)), (7, nv 6 [a2, a3]), (8, nv 6 [v2, v3]), (9, .pointer (some ⟨w.heap.size, 24, none⟩)), (10, nv 6 [a4, a5]), (11, nv 6 [v4, v5]), (12, nv 6 [v0, v1, v2, v3, v4, v5])] 10 _ (by kernel_rfl) (by kernel_rfl) (by kernel_rfl) (by kernel_rfl) rfl rfl (by kernel_rfl) rfl (by simp only [putAll, List.setIfInBounds_toArray, List.set_cons_zero, List.set_cons_succ]) (Bel.start _) ?_ ?_)
  · refine PlanInit.cons (ps_val (v := .pointer (some ⟨w.heap.size, 0, none⟩)) rfl rfl rfl (fun W' h => ex_field faFp6_0 rfl)) ?_
    refine PlanInit.cons (ps_val (v := nv 6 [a0, a1]) rfl rfl rfl (fun W' h => ex_loadn (K := 6) (k := 0) (j := 2) (l := [a0, a1, a2, a3, a4, a5]) flFp2 rfl (A4.keep h.out) rfl _ rfl)) ?_
    refine PlanInit.cons (ps_call (v := nv 6 [v0, v1]) rfl rfl rfl (fun W' => ex_call (vs := [nv 6 [a0, a1]]) rfl Try.call50 rfl) (fun W' h => hc0 _)) ?_
    refine PlanInit.cons (ps_val (v := .pointer (some ⟨w.heap.size, 12, none⟩)) rfl rfl rfl (fun W' h => ex_field faFp6_1 rfl)) ?_
    refine PlanInit.cons (ps_val (v := nv 6 [a2, a3]) rfl rfl rfl (fun W' h => ex_loadn (K := 6) (k := 2) (j := 2) (l := [a0, a1, a2, a3, a4, a5]) flFp2 rfl (A4.keep h.out) rfl _ rfl)) ?_
    refine PlanInit.cons (ps_call (v := nv 6 [v2, v3]) rfl rfl rfl (fun W' => ex_call (vs := [nv 6 [a2, a3]]) rfl Try.call50 rfl) (fun W' h => hc1 _)) ?_
    refine PlanInit.cons (ps_val (v := .pointer (some ⟨w.heap.size, 24, none⟩)) rfl rfl rfl (fun W' h => ex_field faFp6_2 rfl)) ?_
    refine PlanInit.cons (ps_val (v := nv 6 [a4, a5]) rfl rfl rfl (fun W' h => ex_loadn (K := 6) (k := 4) (j := 2) (l := [a0, a1, a2, a3, a4, a5]) flFp2 rfl (A4.keep h.out) rfl _ rfl)) ?_
    refine PlanInit.cons (ps_call (v := nv 6 [v4, v5]) rfl rfl rfl (fun W' => ex_call (vs := [nv 6 [a4, a5]]) rfl Try.call50 rfl) (fun W' h => hc2 _)) ?_
    refine PlanInit.cons (ps_val (v := nv 6 [v0, v1, v2, v3, v4, v5]) rfl rfl rfl (fun W' h => ex_build stFp6 (vs := [(0, nv 6 [v0, v1]), (1, nv 6 [v2, v3]), (2, nv 6 [v4, v5])]) rfl (bdABC v0 v1 v2 v3 v4 v5))) ?_
    exact PlanInit.one
  refine last_store (t := 28) (xs := rows 6 [0, 0, 0, 0, 0, 0]) (ys := rows 6 [v0, v1, v2, v3, v4, v5]) rfl rfl (fun W' h => N3.keep h.out) (len_rows rfl) (fun W' h => ex_storen (K := 6) (l := [0, 0, 0, 0, 0, 0]) (m := [v0, v1, v2, v3, v4, v5]) flFp6 rfl rfl (N3.keep h.out) rfl) ?_
  intro w7 w8 hb7 N8 hst8 hoth8
  refine then_n ?_
  have A9 := A4.keep hb7.out
  have A10 := N3.keep hb7.out
  have HB11 := below_then HB5 hb7.out
  have A12 := hoth8 _ _ _ (Nat.ne_of_lt N1.lt) A9
  have HB13 := hst8 _ _ HB11 HB2.size
  exact wp_ret (bodyPost_ret (ret_celln (K := 6) Try.results29 rfl N8 flFp6) rfl ⟨rfl, HB13⟩)

set_option maxRecDepth 20000 in
set_option maxHeartbeats 4000000 in
theorem r6Add_w (a0 a1 a2 a3 a4 a5 b0 b1 b2 b3 b4 b5 v0 v1 v2 v3 v4 v5 : Nat) (hc0 : ∀ w, Calls Try.prog 48 #[nv 6 [a0, a1], nv 6 [b0, b1]] w (Is (nv 6 [v0, v1]) w)) (hc1 : ∀ w, Calls Try.prog 48 #[nv 6 [a2, a3], nv 6 [b2, b3]] w (Is (nv 6 [v2, v3]) w)) (hc2 : ∀ w, Calls Try.prog 48 #[nv 6 [a4, a5], nv 6 [b4, b5]] w (Is (nv 6 [v4, v5]) w)) (w : World) :
    Calls Try.prog 27 #[nv 6 [a0, a1, a2, a3, a4, a5], nv 6 [b0, b1, b2, b3, b4, b5]] w (Is (nv 6 [v0, v1, v2, v3, v4, v5]) w) := by
  go_enter Try.func27, Try.ntmps27
  refine seq_lit ?_
  refine sq_new (a' := ⟨#[nv 6 [a0, a1, a2, a3, a4, a5], nv 6 [b0, b1, b2, b3, b4, b5], .pointer (some ⟨w.heap.size, 0, none⟩), undef, undef, undef, undef, undef, undef, undef, undef, undef, undef, undef, undef, undef, undef, undef, undef, undef, undef], []⟩) (xs := rows 6 [a0, a1, a2, a3, a4, a5]) rfl rfl (ex_boxn (K := 6) (l := [a0, a1, a2, a3, a4, a5]) rfl) ?_
  intro w1 N1 hb1
  have HB2 := below_then (Below.refl w.heap.size w) hb1
  refine sq_new (a' := ⟨#[nv 6 [a0, a1, a2, a3, a4, a5], nv 6 [b0, b1, b2, b3, b4, b5], .pointer (some ⟨w.heap.size, 0, none⟩), .pointer (some ⟨w1.heap.size, 0, none⟩), undef, undef, undef, undef, undef, undef, undef, undef, undef, undef, undef, undef, undef, undef, undef, undef, undef], []⟩) (xs := rows 6 [b0, b1, b2, b3, b4, b5]) rfl rfl (ex_boxn (K := 6) (l := [b0, b1, b2, b3, b4, b5]) rfl) ?_
  intro w3 N3 hb3
  have A4 := N1.keep hb3
  have HB5 := below_then HB2 hb3
  refine sq_new (a' := ⟨#[nv 6 [a0, a1, a2, a3, a4, a5], nv 6 [b0, b1, b2, b3, b4, b5], .pointer (some ⟨w.heap.size, 0, none⟩), .pointer (some ⟨w1.heap.size, 0, none⟩), .pointer (some ⟨w3.heap.size, 0, none⟩), undef, undef, undef, undef, undef, undef, undef, undef, undef, undef, undef, undef, undef, undef, undef, undef], []⟩) (xs := rows 6 [0, 0, 0, 0, 0, 0]) rfl rfl (ex_alloc zFp6) ?_
  intro w7 N7 hb7
  have A8 := A4.keep hb7
  have A9 := N3.keep hb7
  have HB10 := below_then HB5 hb7
  refine seq_nil ?_
  refine wp_seq (wp_region_last (F := ⟨#[nv 6 [a0, a1, a2, a3, a4, a5], nv 6 [b0, b1, b2, b3, b4, b5], .pointer (some ⟨w.heap.size, 0, none⟩), .pointer (some ⟨w1.heap.size, 0, none⟩), .pointer (some ⟨w3.heap.size, 0, none⟩), .pointer (some ⟨w.heap.size, 0, none⟩), nv 6 [a0, a1], .pointer (some ⟨w1.heap.size, 0, none⟩), nv 6 [b0, b1], nv 6 [v0, v1], .pointer (some ⟨w.heap.size, 12, none⟩), nv 6 [a2, a3], .pointer (some ⟨w1.heap.size, 12, none⟩), nv 6 [b2, b3], nv 6 [v2, v3], .pointer (some ⟨w.heap.size, 24, none⟩), nv 6 [a4, a5], .pointer (some ⟨w1.heap.size, 24, none⟩), nv 6 [b4, b5], nv 6 [v4, v5], nv 6 [v0, v1, v2, v3, v4, v5]], []⟩) (S := Bel w7) [(5, .pointer (some ⟨w.heap.size, 0, none⟩)), (6, nv 6 [a0, a1]), (7, .pointer (some ⟨w1.heap.size, 0, none⟩)), (8, nv 6 [b0, b1]), (9, nv 6 [v0, v1]), (10, .pointer (some ⟨w.heap.size, 12, none⟩)), (11, nv 6 [a2, a3]), (12, .pointer (some ⟨w1.heap.size, 12, none⟩)), (13, nv 6 [b2, b3]), (14, nv 6 [v2, v3]), (15, .pointer (some ⟨w.heap.size, 24, none⟩)), (16, nv 6 [a4, a5]), (17, .pointer (some ⟨w1.heap.size, 24, none⟩)), (18, nv 6 [b4, b5]), (19, nv 6 [v4, v5]), (20, nv 6 [v0, v1, v2, v3, v4, v5])] 16 _ (by kernel_rfl) (by kernel_rfl) (by kernel_rfl) (by kernel_rfl) rfl rfl (by kernel_rfl) rfl (by simp only [putAll, List.setIfInBounds_toArray, List.set_cons_zero, List.set_cons_succ]) (Bel.start _) ?_ ?_)
  · refine PlanInit.cons (ps_val (v := .pointer (some ⟨w.heap.size, 0, none⟩)) rfl rfl rfl (fun W' h => ex_field faFp6_0 rfl)) ?_
    refine PlanInit.cons (ps_val (v := nv 6 [a0, a1]) rfl rfl rfl (fun W' h => ex_loadn (K := 6) (k := 0) (j := 2) (l := [a0, a1, a2, a3, a4, a5]) flFp2 rfl (A8.keep h.out) rfl _ rfl)) ?_
    refine PlanInit.cons (ps_val (v := .pointer (some ⟨w1.heap.size, 0, none⟩)) rfl rfl rfl (fun W' h => ex_field faFp6_0 rfl)) ?_
    refine PlanInit.cons (ps_val (v := nv 6 [b0, b1]) rfl rfl rfl (fun W' h => ex_loadn (K := 6) (k := 0) (j := 2) (l := [b0, b1, b2, b3, b4, b5]) flFp2 rfl (A9.keep h.out) rfl _ rfl)) ?_
    refine PlanInit.cons (ps_call (v := nv 6 [v0, v1]) rfl rfl rfl (fun W' => ex_call (vs := [nv 6 [a0, a1], nv 6 [b0, b1]]) rfl Try.call48 rfl) (fun W' h => hc0 _)) ?_
    refine PlanInit.cons (ps_val (v := .pointer (some ⟨w.heap.size, 12, none⟩)) rfl rfl rfl (fun W' h => ex_field faFp6_1 rfl)) ?_
    refine PlanInit.cons (ps_val (v := nv 6 [a2, a3]) rfl rfl rfl (fun W' h => ex_loadn (K := 6) (k := 2) (j := 2) (l := [a0, a1, a2, a3, a4, a5]) flFp2 rfl (A8.keep h.out) rfl _ rfl)) ?_
    refine PlanInit.cons (ps_val (v := .pointer (some ⟨w1.heap.size, 12, none⟩)) rfl rfl rfl (fun W' h => ex_field faFp6_1 rfl)) ?_
    refine PlanInit.cons (ps_val (v := nv 6 [b2, b3]) rfl rfl rfl (fun W' h => ex_loadn (K := 6) (k := 2) (j := 2) (l := [b0, b1, b2, b3, b4, b5]) flFp2 rfl (A9.keep h.out) rfl _ rfl)) ?_
    refine PlanInit.cons (ps_call (v := nv 6 [v2, v3]) rfl rfl rfl (fun W' => ex_call (vs := [nv 6 [a2, a3], nv 6 [b2, b3]]) rfl Try.call48 rfl) (fun W' h => hc1 _)) ?_
    refine PlanInit.cons (ps_val (v := .pointer (some ⟨w.heap.size, 24, none⟩)) rfl rfl rfl (fun W' h => ex_field faFp6_2 rfl)) ?_
    refine PlanInit.cons (ps_val (v := nv 6 [a4, a5]) rfl rfl rfl (fun W' h => ex_loadn (K := 6) (k := 4) (j := 2) (l := [a0, a1, a2, a3, a4, a5]) flFp2 rfl (A8.keep h.out) rfl _ rfl)) ?_
    refine PlanInit.cons (ps_val (v := .pointer (some ⟨w1.heap.size, 24, none⟩)) rfl rfl rfl (fun W' h => ex_field faFp6_2 rfl)) ?_
    refine PlanInit.cons (ps_val (v := nv 6 [b4, b5]) rfl rfl rfl (fun W' h => ex_loadn (K := 6) (k := 4) (j := 2) (l := [b0, b1, b2, b3, b4, b5]) flFp2 rfl (A9.keep h.out) rfl _ rfl)) ?_
    refine PlanInit.cons (ps_call (v := nv 6 [v4, v5]) rfl rfl rfl (fun W' => ex_call (vs := [nv 6 [a4, a5], nv 6 [b4, b5]]) rfl Try.call48 rfl) (fun W' h => hc2 _)) ?_
    refine PlanInit.cons (ps_val (v := nv 6 [v0, v1, v2, v3, v4, v5]) rfl rfl rfl (fun W' h => ex_build stFp6 (vs := [(0, nv 6 [v0, v1]), (1, nv 6 [v2, v3]), (2, nv 6 [v4, v5])]) rfl (bdABC v0 v1 v2 v3 v4 v5))) ?_
    exact PlanInit.one
  refine last_store (t := 28) (xs := rows 6 [0, 0, 0, 0, 0, 0]) (ys := rows 6 [v0, v1, v2, v3, v4, v5]) rfl rfl (fun W' h => N7.keep h.out) (len_rows rfl) (fun W' h => ex_storen (K := 6) (l := [0, 0, 0, 0, 0, 0]) (m := [v0, v1, v2, v3, v4, v5]) flFp6 rfl rfl (N7.keep h.out) rfl) ?_
  intro w13 w14 hb13 N14 hst14 hoth14
  refine then_n ?_
  have A15 := A8.keep hb13.out
  have A16 := A9.keep hb13.out
  have A17 := N7.keep hb13.out
  have HB18 := below_then HB10 hb13.out
  have A19 := hoth14 _ _ _ (Nat.ne_of_lt A4.lt) A15
  have A20 := hoth14 _ _ _ (Nat.ne_of_lt N3.lt) A16
  have HB21 := hst14 _ _ HB18 HB5.size
  exact wp_ret (bodyPost_ret (ret_celln (K := 6) Try.results27 rfl N14 flFp6) rfl ⟨rfl, HB21⟩)

theorem sextClean_r {a0 a1 a2 a3 a4 a5 : Nat} {x0 x1 x2 x3 x4 x5 : Int} (ra0 : Rep a0 x0) (ra1 : Rep a1 x1) (ra2 : Rep a2 x2) (ra3 : Rep a3 x3) (ra4 : Rep a4 x4) (ra5 : Rep a5 x5) (la0 : a0 < fpB) (la1 : a1 < fpB) (la2 : a2 < fpB) (la3 : a3 < fpB) (la4 : a4 < fpB) (la5 : a5 < fpB) {v0 v1 v2 v3 v4 v5 : Nat} (bv0 : v0 < pN) (bv1 : v1 < pN) (bv2 : v2 < pN) (bv3 : v3 < pN) (bv4 : v4 < pN) (bv5 : v5 < pN) (rv0 : Rep v0 (x0)) (rv1 : Rep v1 (x1)) (rv2 : Rep v2 (x2)) (rv3 : Rep v3 (x3)) (rv4 : Rep v4 (x4)) (rv5 : Rep v5 (x5)) (w : World) :
    Calls Try.prog 25 #[nv 6 [a0, a1, a2, a3, a4, a5]] w (Is (nv 6 [v0, v1, v2, v3, v4, v5]) w) :=
  sextClean_w a0 a1 a2 a3 a4 a5 v0 v1 v2 v3 v4 v5 (fun w => duoClean_r ra0 ra1 la0 la1 bv0 bv1 rv0 rv1 w) (fun w => duoClean_r ra2 ra3 la2 la3 bv2 bv3 rv2 rv3 w) (fun w => duoClean_r ra4 ra5 la4 la5 bv4 bv5 rv4 rv5 w) w

theorem sextNeg_r {a0 a1 a2 a3 a4 a5 : Nat} {x0 x1 x2 x3 x4 x5 : Int} (ra0 : Rep a0 x0) (ra1 : Rep a1 x1) (ra2 : Rep a2 x2) (ra3 : Rep a3 x3) (ra4 : Rep a4 x4) (ra5 : Rep a5 x5) (la0 : a0 < fpB) (la1 : a1 < fpB) (la2 : a2 < fpB) (la3 : a3 < fpB) (la4 : a4 < fpB) (la5 : a5 < fpB) {v0 v1 v2 v3 v4 v5 : Nat} (bv0 : v0 < pN) (bv1 : v1 < pN) (bv2 : v2 < pN) (bv3 : v3 < pN) (bv4 : v4 < pN) (bv5 : v5 < pN) (rv0 : Rep v0 (-x0)) (rv1 : Rep v1 (-x1)) (rv2 : Rep v2 (-x2)) (rv3 : Rep v3 (-x3)) (rv4 : Rep v4 (-x4)) (rv5 : Rep v5 (-x5)) (w : World) :
    Calls Try.prog 28 #[nv 6 [a0, a1, a2, a3, a4, a5]] w (Is (nv 6 [v0, v1, v2, v3, v4, v5]) w) :=
  sextNeg_w a0 a1 a2 a3 a4 a5 v0 v1 v2 v3 v4 v5 (fun w => duoNeg_r ra0 ra1 la0 la1 bv0 bv1 rv0 rv1 w) (fun w => duoNeg_r ra2 ra3 la2 la3 bv2 bv3 rv2 rv3 w) (fun w => duoNeg_r ra4 ra5 la4 la5 bv4 bv5 rv4 rv5 w) w

theorem sextAdd_r {a0 a1 a2 a3 a4 a5 b0 b1 b2 b3 b4 b5 : Nat} {x0 x1 x2 x3 x4 x5 y0 y1 y2 y3 y4 y5 : Int} (ra0 : Rep a0 x0) (ra1 : Rep a1 x1) (ra2 : Rep a2 x2) (ra3 : Rep a3 x3) (ra4 : Rep a4 x4) (ra5 : Rep a5 x5) (rb0 : Rep b0 y0) (rb1 : Rep b1 y1) (rb2 : Rep b2 y2) (rb3 : Rep b3 y3) (rb4 : Rep b4 y4) (rb5 : Rep b5 y5) (la0 : a0 < fpB) (la1 : a1 < fpB) (la2 : a2 < fpB) (la3 : a3 < fpB) (la4 : a4 < fpB) (la5 : a5 < fpB) (lb0 : b0 < fpB) (lb1 : b1 < fpB) (lb2 : b2 < fpB) (lb3 : b3 < fpB) (lb4 : b4 < fpB) (lb5 : b5 < fpB) {v0 v1 v2 v3 v4 v5 : Nat} (bv0 : v0 < pN) (bv1 : v1 < pN) (bv2 : v2 < pN) (bv3 : v3 < pN) (bv4 : v4 < pN) (bv5 : v5 < pN) (rv0 : Rep v0 (x0 + y0)) (rv1 : Rep v1 (x1 + y1)) (rv2 : Rep v2 (x2 + y2)) (rv3 : Rep v3 (x3 + y3)) (rv4 : Rep v4 (x4 + y4)) (rv5 : Rep v5 (x5 + y5)) (w : World) :
    Calls Try.prog 26 #[nv 6 [a0, a1, a2, a3, a4, a5], nv 6 [b0, b1, b2, b3, b4, b5]] w (Is (nv 6 [v0, v1, v2, v3, v4, v5]) w) :=
  sextAdd_w a0 a1 a2 a3 a4 a5 b0 b1 b2 b3 b4 b5 v0 v1 v2 v3 v4 v5 (fun w => duoAdd_r ra0 ra1 rb0 rb1 la0 la1 lb0 lb1 bv0 bv1 rv0 rv1 w) (fun w => duoAdd_r ra2 ra3 rb2 rb3 la2 la3 lb2 lb3 bv2 bv3 rv2 rv3 w) (fun w => duoAdd_r ra4 ra5 rb4 rb5 la4 la5 lb4 lb5 bv4 bv5 rv4 rv5 w) w

theorem r6Clean_r {a0 a1 a2 a3 a4 a5 : Nat} {x0 x1 x2 x3 x4 x5 : Int} (ra0 : Rep a0 x0) (ra1 : Rep a1 x1) (ra2 : Rep a2 x2) (ra3 : Rep a3 x3) (ra4 : Rep a4 x4) (ra5 : Rep a5 x5) (la0 : a0 < fpB) (la1 : a1 < fpB) (la2 : a2 < fpB) (la3 : a3 < fpB) (la4 : a4 < fpB) (la5 : a5 < fpB) {v0 v1 v2 v3 v4 v5 : Nat} (bv0 : v0 < pN) (bv1 : v1 < pN) (bv2 : v2 < pN) (bv3 : v3 < pN) (bv4 : v4 < pN) (bv5 : v5 < pN) (rv0 : Rep v0 (x0)) (rv1 : Rep v1 (x1)) (rv2 : Rep v2 (x2)) (rv3 : Rep v3 (x3)) (rv4 : Rep v4 (x4)) (rv5 : Rep v5 (x5)) (w : World) :
    Calls Try.prog 23 #[nv 6 [a0, a1, a2, a3, a4, a5]] w (Is (nv 6 [v0, v1, v2, v3, v4, v5]) w) :=
  r6Clean_w a0 a1 a2 a3 a4 a5 v0 v1 v2 v3 v4 v5 (fun w => r5Clean_r ra0 ra1 la0 la1 bv0 bv1 rv0 rv1 w) (fun w => r5Clean_r ra2 ra3 la2 la3 bv2 bv3 rv2 rv3 w) (fun w => r5Clean_r ra4 ra5 la4 la5 bv4 bv5 rv4 rv5 w) w

theorem r6Neg_r {a0 a1 a2 a3 a4 a5 : Nat} {x0 x1 x2 x3 x4 x5 : Int} (ra0 : Rep a0 x0) (ra1 : Rep a1 x1) (ra2 : Rep a2 x2) (ra3 : Rep a3 x3) (ra4 : Rep a4 x4) (ra5 : Rep a5 x5) (la0 : a0 < pN) (la1 : a1 < pN) (la2 : a2 < pN) (la3 : a3 < pN) (la4 : a4 < pN) (la5 : a5 < pN) {v0 v1 v2 v3 v4 v5 : Nat} (bv0 : v0 < pN) (bv1 : v1 < pN) (bv2 : v2 < pN) (bv3 : v3 < pN) (bv4 : v4 < pN) (bv5 : v5 < pN) (rv0 : Rep v0 (-x0)) (rv1 : Rep v1 (-x1)) (rv2 : Rep v2 (-x2)) (rv3 : Rep v3 (-x3)) (rv4 : Rep v4 (-x4)) (rv5 : Rep v5 (-x5)) (w : World) :
    Calls Try.prog 29 #[nv 6 [a0, a1, a2, a3, a4, a5]] w (Is (nv 6 [v0, v1, v2, v3, v4, v5]) w) :=
  r6Neg_w a0 a1 a2 a3 a4 a5 v0 v1 v2 v3 v4 v5 (fun w => r5Neg_r ra0 ra1 la0 la1 bv0 bv1 rv0 rv1 w) (fun w => r5Neg_r ra2 ra3 la2 la3 bv2 bv3 rv2 rv3 w) (fun w => r5Neg_r ra4 ra5 la4 la5 bv4 bv5 rv4 rv5 w) w

theorem r6Add_r {a0 a1 a2 a3 a4 a5 b0 b1 b2 b3 b4 b5 : Nat} {x0 x1 x2 x3 x4 x5 y0 y1 y2 y3 y4 y5 : Int} (ra0 : Rep a0 x0) (ra1 : Rep a1 x1) (ra2 : Rep a2 x2) (ra3 : Rep a3 x3) (ra4 : Rep a4 x4) (ra5 : Rep a5 x5) (rb0 : Rep b0 y0) (rb1 : Rep b1 y1) (rb2 : Rep b2 y2) (rb3 : Rep b3 y3) (rb4 : Rep b4 y4) (rb5 : Rep b5 y5) (la0 : a0 < pN) (la1 : a1 < pN) (la2 : a2 < pN) (la3 : a3 < pN) (la4 : a4 < pN) (la5 : a5 < pN) (lb0 : b0 < pN) (lb1 : b1 < pN) (lb2 : b2 < pN) (lb3 : b3 < pN) (lb4 : b4 < pN) (lb5 : b5 < pN) {v0 v1 v2 v3 v4 v5 : Nat} (bv0 : v0 < pN) (bv1 : v1 < pN) (bv2 : v2 < pN) (bv3 : v3 < pN) (bv4 : v4 < pN) (bv5 : v5 < pN) (rv0 : Rep v0 (x0 + y0)) (rv1 : Rep v1 (x1 + y1)) (rv2 : Rep v2 (x2 + y2)) (rv3 : Rep v3 (x3 + y3)) (rv4 : Rep v4 (x4 + y4)) (rv5 : Rep v5 (x5 + y5)) (w : World) :
    Calls Try.prog 27 #[nv 6 [a0, a1, a2, a3, a4, a5], nv 6 [b0, b1, b2, b3, b4, b5]] w (Is (nv 6 [v0, v1, v2, v3, v4, v5]) w) :=
  r6Add_w a0 a1 a2 a3 a4 a5 b0 b1 b2 b3 b4 b5 v0 v1 v2 v3 v4 v5 (fun w => r5Add_r ra0 ra1 rb0 rb1 la0 la1 lb0 lb1 bv0 bv1 rv0 rv1 w) (fun w => r5Add_r ra2 ra3 rb2 rb3 la2 la3 lb2 lb3 bv2 bv3 rv2 rv3 w) (fun w => r5Add_r ra4 ra5 rb4 rb5 la4 la5 lb4 lb5 bv4 bv5 rv4 rv5 w) w
end Go.Proofs.Ytodabjelnllkgaa

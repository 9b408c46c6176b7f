/- What is proved here: what the functions of package full and of its reference answer, by numbers that stand for whole numbers modulo p. -/
import Derived.Test.YtodabjelnllkgaaSext1
import Derived.Test.YtodabjelnllkgaaTyFull
namespace Go.Proofs.Ytodabjelnllkgaa
open Go.RowKit

set_option maxRecDepth 20000 in
set_option maxHeartbeats 4000000 in
theorem fullOne_w (w : World) :
    Calls Try.prog 16 #[] w (Is (nv 6 [1, 0, 0, 0, 0, 0, 0, 0, 0, 0, 0, 0]) w) := by
  go_enter Try.func16, Try.ntmps16
  refine seq_lit ?_
  refine sq_new (a' := ⟨#[.pointer (some ⟨w.heap.size, 0, none⟩), undef, undef, undef, undef], []⟩) (xs := rows 6 [0, 0, 0, 0, 0, 0, 0, 0, 0, 0, 0, 0]) rfl rfl (ex_alloc zFp12) ?_
  intro w1 N1 hb1
  have HB2 := below_then (Below.refl w.heap.size w) hb1
  refine seq_nil ?_
  refine seq_lit ?_
  refine sq_val (a' := ⟨#[.pointer (some ⟨w.heap.size, 0, none⟩), nv 6 [1], undef, undef, undef], []⟩) (v := nv 6 [1]) rfl rfl (ex_one rfl) ?_
  refine sq_val (a' := ⟨#[.pointer (some ⟨w.heap.size, 0, none⟩), nv 6 [1], nv 6 [1, 0], undef, undef], []⟩) (v := nv 6 [1, 0]) rfl rfl (ex_build stFp2 (vs := [(0, nv 6 [1])]) rfl (bdA 1)) ?_
  refine sq_val (a' := ⟨#[.pointer (some ⟨w.heap.size, 0, none⟩), nv 6 [1], nv 6 [1, 0], nv 6 [1, 0, 0, 0, 0, 0], undef], []⟩) (v := nv 6 [1, 0, 0, 0, 0, 0]) rfl rfl (ex_build stFp6 (vs := [(0, nv 6 [1, 0])]) rfl (bd6A 1 0)) ?_
  refine sq_val (a' := ⟨#[.pointer (some ⟨w.heap.size, 0, none⟩), nv 6 [1], nv 6 [1, 0], nv 6 [1, 0, 0, 0, 0, 0], nv 6 [1, 0, 0, 0, 0, 0, 0, 0, 0, 0, 0, 0]], []⟩) (v := nv 6 [1, 0, 0, 0, 0, 0, 0, 0, 0, 0, 0, 0]) rfl rfl (ex_build stFp12 (vs := [(0, nv 6 [1, 0, 0, 0, 0, 0])]) rfl (bd12A 1 0 0 0 0 0)) ?_
  refine sq_store (a' := ⟨#[.pointer (some ⟨w.heap.size, 0, none⟩), nv 6 [1], nv 6 [1, 0], nv 6 [1, 0, 0, 0, 0, 0], nv 6 [1, 0, 0, 0, 0, 0, 0, 0, 0, 0, 0, 0]], []⟩) (t := 30) (xs := rows 6 [0, 0, 0, 0, 0, 0, 0, 0, 0, 0, 0, 0]) (ys := rows 6 [1, 0, 0, 0, 0, 0, 0, 0, 0, 0, 0, 0]) rfl rfl N1 (len_rows rfl) (ex_storen (K := 6) (l := [0, 0, 0, 0, 0, 0, 0, 0, 0, 0, 0, 0]) (m := [1, 0, 0, 0, 0, 0, 0, 0, 0, 0, 0, 0]) flFp12 rfl rfl N1 rfl) ?_
  intro w3 N3 hst3 hoth3
  have HB4 := hst3 _ _ HB2 (Nat.le_refl _)
  refine seq_nil ?_
  exact wp_ret (bodyPost_ret (ret_celln (K := 6) Try.results16 rfl N3 flFp12) rfl ⟨rfl, HB4⟩)

set_option maxRecDepth 20000 in
set_option maxHeartbeats 4000000 in
theorem r7One_w (w : World) :
    Calls Try.prog 24 #[] w (Is (nv 6 [1, 0, 0, 0, 0, 0, 0, 0, 0, 0, 0, 0]) w) := by
  go_enter Try.func24, Try.ntmps24
  refine seq_lit ?_
  refine sq_new (a' := ⟨#[.pointer (some ⟨w.heap.size, 0, none⟩), undef, undef, undef, undef], []⟩) (xs := rows 6 [0, 0, 0, 0, 0, 0, 0, 0, 0, 0, 0, 0]) rfl rfl (ex_alloc zFp12) ?_
  intro w1 N1 hb1
  have HB2 := below_then (Below.refl w.heap.size w) hb1
  refine seq_nil ?_
  refine seq_lit ?_
  refine sq_val (a' := ⟨#[.pointer (some ⟨w.heap.size, 0, none⟩), nv 6 [1], undef, undef, undef], []⟩) (v := nv 6 [1]) rfl rfl (ex_one rfl) ?_
  refine sq_val (a' := ⟨#[.pointer (some ⟨w.heap.size, 0, none⟩), nv 6 [1], nv 6 [1, 0], undef, undef], []⟩) (v := nv 6 [1, 0]) rfl rfl (ex_build stFp2 (vs := [(0, nv 6 [1])]) rfl (bdA 1)) ?_
  refine sq_val (a' := ⟨#[.pointer (some ⟨w.heap.size, 0, none⟩), nv 6 [1], nv 6 [1, 0], nv 6 [1, 0, 0, 0, 0, 0], undef], []⟩) (v := nv 6 [1, 0, 0, 0, 0, 0]) rfl rfl (ex_build stFp6 (vs := [(0, nv 6 [1, 0])]) rfl (bd6A 1 0)) ?_
  refine sq_val (a' := ⟨#[.pointer (some ⟨w.heap.size, 0, none⟩), nv 6 [1], nv 6 [1, 0], nv 6 [1, 0, 0, 0, 0, 0], nv 6 [1, 0, 0, 0, 0, 0, 0, 0, 0, 0, 0, 0]], []⟩) (v := nv 6 [1, 0, 0, 0, 0, 0, 0, 0, 0, 0, 0, 0]) rfl rfl (ex_build stFp12 (vs := [(0, nv 6 [1, 0, 0, 0, 0, 0])]) rfl (bd12A 1 0 0 0 0 0)) ?_
  refine sq_store (a' := ⟨#[.pointer (some ⟨w.heap.size, 0, none⟩), nv 6 [1], nv 6 [1, 0], nv 6 [1, 0, 0, 0, 0, 0], nv 6 [1, 0, 0, 0, 0, 0, 0, 0, 0, 0, 0, 0]], []⟩) (t := 30) (xs := rows 6 [0, 0, 0, 0, 0, 0, 0, 0, 0, 0, 0, 0]) (ys := rows 6 [1, 0, 0, 0, 0, 0, 0, 0, 0, 0, 0, 0]) rfl rfl N1 (len_rows rfl) (ex_storen (K := 6) (l := [0, 0, 0, 0, 0, 0, 0, 0, 0, 0, 0, 0]) (m := [1, 0, 0, 0, 0, 0, 0, 0, 0, 0, 0, 0]) flFp12 rfl rfl N1 rfl) ?_
  intro w3 N3 hst3 hoth3
  have HB4 := hst3 _ _ HB2 (Nat.le_refl _)
  refine seq_nil ?_
  exact wp_ret (bodyPost_ret (ret_celln (K := 6) Try.results24 rfl N3 flFp12) rfl ⟨rfl, HB4⟩)

set_option maxRecDepth 20000 in
set_option maxHeartbeats 4000000 in
theorem fullalive_w (w : World) :
    Calls Try.prog 9 #[] w (Is (.bool true) w) := by
  go_enter Try.func9, Try.ntmps9
  refine seq_lit ?_
  refine sq_val (a' := ⟨#[.bool false, undef, undef, undef], []⟩) (v := .bool false) rfl rfl (ex_assign _) ?_
  refine seq_nil ?_
  refine seq_lit ?_
  refine sq_call (a' := ⟨#[.bool false, nv 6 [1, 0, 0, 0, 0, 0, 0, 0, 0, 0, 0, 0], undef, undef], []⟩) (v := nv 6 [1, 0, 0, 0, 0, 0, 0, 0, 0, 0, 0, 0]) rfl rfl (ex_call (vs := []) rfl Try.call16 rfl) (fullOne_w _) ?_
  intro w1 hb1
  have HB2 := below_then (Below.refl w.heap.size w) hb1
  refine sq_call (a' := ⟨#[.bool false, nv 6 [1, 0, 0, 0, 0, 0, 0, 0, 0, 0, 0, 0], nv 6 [1, 0, 0, 0, 0, 0, 0, 0, 0, 0, 0, 0], undef], []⟩) (v := nv 6 [1, 0, 0, 0, 0, 0, 0, 0, 0, 0, 0, 0]) rfl rfl (ex_call (vs := []) rfl Try.call24 rfl) (r7One_w _) ?_
  intro w3 hb3
  have HB4 := below_then HB2 hb3
  refine sq_val (a' := ⟨#[.bool false, nv 6 [1, 0, 0, 0, 0, 0, 0, 0, 0, 0, 0, 0], nv 6 [1, 0, 0, 0, 0, 0, 0, 0, 0, 0, 0, 0], .bool true], []⟩) (v := .bool true) rfl rfl (ex_eqt (K := 6) (l := [1, 0, 0, 0, 0, 0, 0, 0, 0, 0, 0, 0]) eqFp12 rfl rfl rfl rfl) ?_
  refine sq_val (a' := ⟨#[.bool true, nv 6 [1, 0, 0, 0, 0, 0, 0, 0, 0, 0, 0, 0], nv 6 [1, 0, 0, 0, 0, 0, 0, 0, 0, 0, 0, 0], .bool true], []⟩) (v := .bool true) rfl rfl (ex_assign _) ?_
  refine seq_nil ?_
  exact wp_ret (bodyPost_ret (ret_tmp Try.results9 rfl) rfl ⟨rfl, HB4⟩)

set_option maxRecDepth 20000 in
set_option maxHeartbeats 4000000 in
theorem fullClean_r {a0 a1 a2 a3 a4 a5 a6 a7 a8 a9 a10 a11 : Nat} {x0 x1 x2 x3 x4 x5 x6 x7 x8 x9 x10 x11 : Int} (ra0 : Rep a0 x0) (ra1 : Rep a1 x1) (ra2 : Rep a2 x2) (ra3 : Rep a3 x3) (ra4 : Rep a4 x4) (ra5 : Rep a5 x5) (ra6 : Rep a6 x6) (ra7 : Rep a7 x7) (ra8 : Rep a8 x8) (ra9 : Rep a9 x9) (ra10 : Rep a10 x10) (ra11 : Rep a11 x11) (la0 : a0 < fpB) (la1 : a1 < fpB) (la2 : a2 < fpB) (la3 : a3 < fpB) (la4 : a4 < fpB) (la5 : a5 < fpB) (la6 : a6 < fpB) (la7 : a7 < fpB) (la8 : a8 < fpB) (la9 : a9 < fpB) (la10 : a10 < fpB) (la11 : a11 < fpB) {v0 v1 v2 v3 v4 v5 v6 v7 v8 v9 v10 v11 : Nat} (bv0 : v0 < pN) (bv1 : v1 < pN) (bv2 : v2 < pN) (bv3 : v3 < pN) (bv4 : v4 < pN) (bv5 : v5 < pN) (bv6 : v6 < pN) (bv7 : v7 < pN) (bv8 : v8 < pN) (bv9 : v9 < pN) (bv10 : v10 < pN) (bv11 : v11 < pN) (rv0 : Rep v0 (x0)) (rv1 : Rep v1 (x1)) (rv2 : Rep v2 (x2)) (rv3 : Rep v3 (x3)) (rv4 : Rep v4 (x4)) (rv5 : Rep v5 (x5)) (rv6 : Rep v6 (x6)) (rv7 : Rep v7 (x7)) (rv8 : Rep v8 (x8)) (rv9 : Rep v9 (x9)) (rv10 : Rep v10 (x10)) (rv11 : Rep v11 (x11)) (w : World) :
    Calls Try.prog 10 #[nv 6 [a0, a1, a2, a3, a4, a5, a6, a7, a8, a9, a10, a11]] w (Is (nv 6 [v0, v1, v2, v3, v4, v5, v6, v7, v8, v9, v10, v11]) w) := by
  go_enter Try.func10, Try.ntmps10
  refine seq_lit ?_
  refine sq_new (a' := ⟨#[nv 6 [a0, a1, a2, a3, a4, a5, a6, a7, a8, a9, a10, a11], .pointer (some ⟨w.heap.size, 0, none⟩), undef, undef, undef, undef, undef, undef, undef, undef], []⟩) (xs := rows 6 [a0, a1, a2, a3, a4, a5, a6, a7, a8, a9, a10, a11]) rfl rfl (ex_boxn (K := 6) (l := [a0, a1, a2, a3, a4, a5, a6, a7, a8, a9, a10, a11]) rfl) ?_
  intro w1 N1 hb1
  have HB2 := below_then (Below.refl w.heap.size w) hb1
  refine sq_new (a' := ⟨#[nv 6 [a0, a1, a2, a3, a4, a5, a6, a7, a8, a9, a10, a11], .pointer (some ⟨w.heap.size, 0, none⟩), .pointer (some ⟨w1.heap.size, 0, none⟩), undef, undef, undef, undef, undef, undef, undef], []⟩) (xs := rows 6 [0, 0, 0, 0, 0, 0, 0, 0, 0, 0, 0, 0]) rfl rfl (ex_alloc zFp12) ?_
  intro w3 N3 hb3
  have A4 := N1.keep hb3
  have HB5 := below_then HB2 hb3
  refine seq_nil ?_
  refine wp_seq (wp_region_last (F := ⟨#[nv 6 [a0, a1, a2, a3, a4, a5, a6, a7, a8, a9, a10, a11], .pointer (some ⟨w.heap.size, 0, none⟩), .pointer (some ⟨w1.heap.size, 0, none⟩), .pointer (some ⟨w.heap.size, 0, none⟩), nv 6 [a0, a1, a2, a3, a4, a5], nv 6 [v0, v1, v2, v3, v4, v5], .pointer (some ⟨w.heap.size, 36, none⟩), nv 6 [a6, a7, a8, a9, a10, a11], nv 6 [v6, v7, v8, v9, v10, v11], nv 6 [v0, v1, v2, v3, v4, v5, v6, v7, v8, v9, v10, v11]], []⟩) (S := Bel w3) [(3, .pointer (some ⟨w.heap.size, 0, none⟩)), (4, nv 6 [a0, a1, a2, a3, a4, a5]), (5, nv 6 [v0, v1, v2, v3, v4, v5]), (6, .pointer (some ⟨w.heap.size, 36, none⟩)), (7, nv 6 [a6, a7, a8, a9, a10, a11]), (8, nv 6 [v6, v7, v8, v9, v10, v11]), (9, nv 6 [v0, v1, v2, v3, v4, v5, v6, v7, v8, v9, v10, v11])] 7 _ (by kernel_rfl) (by kernel_rfl) (by kernel_rfl) (by kernel_rfl) rfl rfl (by kernel_rfl) rfl (by simp only [putAll, List.setIfInBounds_toArray, List.set_cons_zero, List.set_cons_succ]) (Bel.start _) ?_ ?_)
  · refine PlanInit.cons (ps_val (v := .pointer (some ⟨w.heap.size, 0, none⟩)) rfl rfl rfl (fun W' h => ex_field faFp12_0 rfl)) ?_
    refine PlanInit.cons (ps_val (v := nv 6 [a0, a1, a2, a3, a4, a5]) rfl rfl rfl (fun W' h => ex_loadn (K := 6) (k := 0) (j := 6) (l := [a0, a1, a2, a3, a4, a5, a6, a7, a8, a9, a10, a11]) flFp6 rfl (A4.keep h.out) rfl _ rfl)) ?_
    refine PlanInit.cons (ps_call (v := nv 6 [v0, v1, v2, v3, v4, v5]) rfl rfl rfl (fun W' => ex_call (vs := [nv 6 [a0, a1, a2, a3, a4, a5]]) rfl Try.call25 rfl) (fun W' h => sextClean_r ra0 ra1 ra2 ra3 ra4 ra5 la0 la1 la2 la3 la4 la5 bv0 bv1 bv2 bv3 bv4 bv5 rv0 rv1 rv2 rv3 rv4 rv5 _)) ?_
    refine PlanInit.cons (ps_val (v := .pointer (some ⟨w.heap.size, 36, none⟩)) rfl rfl rfl (fun W' h => ex_field faFp12_1 rfl)) ?_
    refine PlanInit.cons (ps_val (v := nv 6 [a6, a7, a8, a9, a10, a11]) rfl rfl rfl (fun W' h => ex_loadn (K := 6) (k := 6) (j := 6) (l := [a0, a1, a2, a3, a4, a5, a6, a7, a8, a9, a10, a11]) flFp6 rfl (A4.keep h.out) rfl _ rfl)) ?_
    refine PlanInit.cons (ps_call (v := nv 6 [v6, v7, v8, v9, v10, v11]) rfl rfl rfl (fun W' => ex_call (vs := [nv 6 [a6, a7, a8, a9, a10, a11]]) rfl Try.call25 rfl) (fun W' h => sextClean_r ra6 ra7 ra8 ra9 ra10 ra11 la6 la7 la8 la9 la10 la11 bv6 bv7 bv8 bv9 bv10 bv11 rv6 rv7 rv8 rv9 rv10 rv11 _)) ?_
    refine PlanInit.cons (ps_val (v := nv 6 [v0, v1, v2, v3, v4, v5, v6, v7, v8, v9, v10, v11]) rfl rfl rfl (fun W' h => ex_build stFp12 (vs := [(0, nv 6 [v0, v1, v2, v3, v4, v5]), (1, nv 6 [v6, v7, v8, v9, v10, v11])]) rfl (bdXY v0 v1 v2 v3 v4 v5 v6 v7 v8 v9 v10 v11))) ?_
    exact PlanInit.one
  refine last_store (t := 30) (xs := rows 6 [0, 0, 0, 0, 0, 0, 0, 0, 0, 0, 0, 0]) (ys := rows 6 [v0, v1, v2, v3, v4, v5, v6, v7, v8, v9, v10, v11]) rfl rfl (fun W' h => N3.keep h.out) (len_rows rfl) (fun W' h => ex_storen (K := 6) (l := [0, 0, 0, 0, 0, 0, 0, 0, 0, 0, 0, 0]) (m := [v0, v1, v2, v3, v4, v5, v6, v7, v8, v9, v10, v11]) flFp12 rfl rfl (N3.keep h.out) rfl) ?_
  intro w7 w8 hb7 N8 hst8 hoth8
  refine then_n ?_
  have A9 := A4.keep hb7.out
  have A10 := N3.keep hb7.out
  have HB11 := below_then HB5 hb7.out
  have A12 := hoth8 _ _ _ (Nat.ne_of_lt N1.lt) A9
  have HB13 := hst8 _ _ HB11 HB2.size
  exact wp_ret (bodyPost_ret (ret_celln (K := 6) Try.results10 rfl N8 flFp12) rfl ⟨rfl, HB13⟩)

set_option maxRecDepth 20000 in
set_option maxHeartbeats 4000000 in
theorem fullAdd_r {a0 a1 a2 a3 a4 a5 a6 a7 a8 a9 a10 a11 b0 b1 b2 b3 b4 b5 b6 b7 b8 b9 b10 b11 : Nat} {x0 x1 x2 x3 x4 x5 x6 x7 x8 x9 x10 x11 y0 y1 y2 y3 y4 y5 y6 y7 y8 y9 y10 y11 : Int} (ra0 : Rep a0 x0) (ra1 : Rep a1 x1) (ra2 : Rep a2 x2) (ra3 : Rep a3 x3) (ra4 : Rep a4 x4) (ra5 : Rep a5 x5) (ra6 : Rep a6 x6) (ra7 : Rep a7 x7) (ra8 : Rep a8 x8) (ra9 : Rep a9 x9) (ra10 : Rep a10 x10) (ra11 : Rep a11 x11) (rb0 : Rep b0 y0) (rb1 : Rep b1 y1) (rb2 : Rep b2 y2) (rb3 : Rep b3 y3) (rb4 : Rep b4 y4) (rb5 : Rep b5 y5) (rb6 : Rep b6 y6) (rb7 : Rep b7 y7) (rb8 : Rep b8 y8) (rb9 : Rep b9 y9) (rb10 : Rep b10 y10) (rb11 : Rep b11 y11) (la0 : a0 < fpB) (la1 : a1 < fpB) (la2 : a2 < fpB) (la3 : a3 < fpB) (la4 : a4 < fpB) (la5 : a5 < fpB) (la6 : a6 < fpB) (la7 : a7 < fpB) (la8 : a8 < fpB) (la9 : a9 < fpB) (la10 : a10 < fpB) (la11 : a11 < fpB) (lb0 : b0 < fpB) (lb1 : b1 < fpB) (lb2 : b2 < fpB) (lb3 : b3 < fpB) (lb4 : b4 < fpB) (lb5 : b5 < fpB) (lb6 : b6 < fpB) (lb7 : b7 < fpB) (lb8 : b8 < fpB) (lb9 : b9 < fpB) (lb10 : b10 < fpB) (lb11 : b11 < fpB) {v0 v1 v2 v3 v4 v5 v6 v7 v8 v9 v10 v11 : Nat} (bv0 : v0 < pN) (bv1 : v1 < pN) (bv2 : v2 < pN) (bv3 : v3 < pN) (bv4 : v4 < pN) (bv5 : v5 < pN) (bv6 : v6 < pN) (bv7 : v7 < pN) (bv8 : v8 < pN) (bv9 : v9 < pN) (bv10 : v10 < pN) (bv11 : v11 < pN) (rv0 : Rep v0 (x0 + y0)) (rv1 : Rep v1 (x1 + y1)) (rv2 : Rep v2 (x2 + y2)) (rv3 : Rep v3 (x3 + y3)) (rv4 : Rep v4 (x4 + y4)) (rv5 : Rep v5 (x5 + y5)) (rv6 : Rep v6 (x6 + y6)) (rv7 : Rep v7 (x7 + y7)) (rv8 : Rep v8 (x8 + y8)) (rv9 : Rep v9 (x9 + y9)) (rv10 : Rep v10 (x10 + y10)) (rv11 : Rep v11 (x11 + y11)) (w : World) :
    Calls Try.prog 11 #[nv 6 [a0, a1, a2, a3, a4, a5, a6, a7, a8, a9, a10, a11], nv 6 [b0, b1, b2, b3, b4, b5, b6, b7, b8, b9, b10, b11]] w (Is (nv 6 [v0, v1, v2, v3, v4, v5, v6, v7, v8, v9, v10, v11]) w) := by
  go_enter Try.func11, Try.ntmps11
  refine seq_lit ?_
  refine sq_new (a' := ⟨#[nv 6 [a0, a1, a2, a3, a4, a5, a6, a7, a8, a9, a10, a11], nv 6 [b0, b1, b2, b3, b4, b5, b6, b7, b8, b9, b10, b11], .pointer (some ⟨w.heap.size, 0, none⟩), undef, undef, undef, undef, undef, undef, undef, undef, undef, undef, undef, undef, undef], []⟩) (xs := rows 6 [a0, a1, a2, a3, a4, a5, a6, a7, a8, a9, a10, a11]) rfl rfl (ex_boxn (K := 6) (l := [a0, a1, a2, a3, a4, a5, a6, a7, a8, a9, a10, a11]) rfl) ?_
  intro w1 N1 hb1
  have HB2 := below_then (Below.refl w.heap.size w) hb1
  refine sq_new (a' := ⟨#[nv 6 [a0, a1, a2, a3, a4, a5, a6, a7, a8, a9, a10, a11], nv 6 [b0, b1, b2, b3, b4, b5, b6, b7, b8, b9, b10, b11], .pointer (some ⟨w.heap.size, 0, none⟩), .pointer (some ⟨w1.heap.size, 0, none⟩), undef, undef, undef, undef, undef, undef, undef, undef, undef, undef, undef, undef], []⟩) (xs := rows 6 [b0, b1, b2, b3, b4, b5, b6, b7, b8, b9, b10, b11]) rfl rfl (ex_boxn (K := 6) (l := [b0, b1, b2, b3, b4, b5, b6, b7, b8, b9, b10, b11]) rfl) ?_
  intro w3 N3 hb3
  have A4 := N1.keep hb3
  have HB5 := below_then HB2 hb3
  refine sq_new (a' := ⟨#[nv 6 [a0, a1, a2, a3, a4, a5, a6, a7, a8, a9, a10, a11], nv 6 [b0, b1, b2, b3, b4, b5, b6, b7, b8, b9, b10, b11], .pointer (some ⟨w.heap.size, 0, none⟩), .pointer (some ⟨w1.heap.size, 0, none⟩), .pointer (some ⟨w3.heap.size, 0, none⟩), undef, undef, undef, undef, undef, undef, undef, undef, undef, undef, undef], []⟩) (xs := rows 6 [0, 0, 0, 0, 0, 0, 0, 0, 0, 0, 0, 0]) rfl rfl (ex_alloc zFp12) ?_
  intro w7 N7 hb7
  have A8 := A4.keep hb7
  have A9 := N3.keep hb7
  have HB10 := below_then HB5 hb7
  refine seq_nil ?_
  refine wp_seq (wp_region_last (F := ⟨#[nv 6 [a0, a1, a2, a3, a4, a5, a6, a7, a8, a9, a10, a11], nv 6 [b0, b1, b2, b3, b4, b5, b6, b7, b8, b9, b10, b11], .pointer (some ⟨w.heap.size, 0, none⟩), .pointer (some ⟨w1.heap.size, 0, none⟩), .pointer (some ⟨w3.heap.size, 0, none⟩), .pointer (some ⟨w.heap.size, 0, none⟩), nv 6 [a0, a1, a2, a3, a4, a5], .pointer (some ⟨w1.heap.size, 0, none⟩), nv 6 [b0, b1, b2, b3, b4, b5], nv 6 [v0, v1, v2, v3, v4, v5], .pointer (some ⟨w.heap.size, 36, none⟩), nv 6 [a6, a7, a8, a9, a10, a11], .pointer (some ⟨w1.heap.size, 36, none⟩), nv 6 [b6, b7, b8, b9, b10, b11], nv 6 [v6, v7, v8, v9, v10, v11], nv 6 [v0, v1, v2, v3, v4, v5, v6, v7, v8, v9, v10, v11]], []⟩) (S := Bel w7) [(5, .pointer (some ⟨w.heap.size, 0, none⟩)), (6, nv 6 [a0, a1, a2, a3, a4, a5]), (7, .pointer (some ⟨w1.heap.size, 0, none⟩)), (8, nv 6 [b0, b1, b2, b3, b4, b5]), (9, nv 6 [v0, v1, v2, v3, v4, v5]), (10, .pointer (some ⟨w.heap.size, 36, none⟩)), (11, nv 6 [a6, a7, a8, a9, a10, a11]), (12, .pointer (some ⟨w1.heap.size, 36, none⟩)), (13, nv 6 [b6, b7, b8, b9, b10, b11]), (14, nv 6 [v6, v7, v8, v9, v10, v11]), (15, nv 6 [v0, v1, v2, v3, v4, v5, v6, v7, v8, v9, v10, v11])] 11 _ (by kernel_rfl) (by kernel_rfl) (by kernel_rfl) (by kernel_rfl) rfl rfl (by kernel_rfl) rfl (by simp only [putAll, List.setIfInBounds_toArray, List.set_cons_zero, List.set_cons_succ]) (Bel.start _) ?_ ?_)
  · refine PlanInit.cons (ps_val (v := .pointer (some ⟨w.heap.size, 0, none⟩)) rfl rfl rfl (fun W' h => ex_field faFp12_0 rfl)) ?_
    refine PlanInit.cons (ps_val (v := nv 6 [a0, a1, a2, a3, a4, a5]) rfl rfl rfl (fun W' h => ex_loadn (K := 6) (k := 0) (j := 6) (l := [a0, a1, a2, a3, a4, a5, a6, a7, a8, a9, a10, a11]) flFp6 rfl (A8.keep h.out) rfl _ rfl)) ?_
    refine PlanInit.cons (ps_val (v := .pointer (some ⟨w1.heap.size, 0, none⟩)) rfl rfl rfl (fun W' h => ex_field faFp12_0 rfl)) ?_
    refine PlanInit.cons (ps_val (v := nv 6 [b0, b1, b2, b3, b4, b5]) rfl rfl rfl (fun W' h => ex_loadn (K := 6) (k := 0) (j := 6) (l := [b0, b1, b2, b3, b4, b5, b6, b7, b8, b9, b10, b11]) flFp6 rfl (A9.keep h.out) rfl _ rfl)) ?_
    refine PlanInit.cons (ps_call (v := nv 6 [v0, v1, v2, v3, v4, v5]) rfl rfl rfl (fun W' => ex_call (vs := [nv 6 [a0, a1, a2, a3, a4, a5], nv 6 [b0, b1, b2, b3, b4, b5]]) rfl Try.call26 rfl) (fun W' h => sextAdd_r ra0 ra1 ra2 ra3 ra4 ra5 rb0 rb1 rb2 rb3 rb4 rb5 la0 la1 la2 la3 la4 la5 lb0 lb1 lb2 lb3 lb4 lb5 bv0 bv1 bv2 bv3 bv4 bv5 rv0 rv1 rv2 rv3 rv4 rv5 _)) ?_
    refine PlanInit.cons (ps_val (v := .pointer (some ⟨w.heap.size, 36, none⟩)) rfl rfl rfl (fun W' h => ex_field faFp12_1 rfl)) ?_
    refine PlanInit.cons (ps_val (v := nv 6 [a6, a7, a8, a9, a10, a11]) rfl rfl rfl (fun W' h => ex_loadn (K := 6) (k := 6) (j := 6) (l := [a0, a1, a2, a3, a4, a5, a6, a7, a8, a9, a10, a11]) flFp6 rfl (A8.keep h.out) rfl _ rfl)) ?_
    refine PlanInit.cons (ps_val (v := .pointer (some ⟨w1.heap.size, 36, none⟩)) rfl rfl rfl (fun W' h => ex_field faFp12_1 rfl)) ?_
    refine PlanInit.cons (ps_val (v := nv 6 [b6, b7, b8, b9, b10, b11]) rfl rfl rfl (fun W' h => ex_loadn (K := 6) (k := 6) (j := 6) (l := [b0, b1, b2, b3, b4, b5, b6, b7, b8, b9, b10, b11]) flFp6 rfl (A9.keep h.out) rfl _ rfl)) ?_
    refine PlanInit.cons (ps_call (v := nv 6 [v6, v7, v8, v9, v10, v11]) rfl rfl rfl (fun W' => ex_call (vs := [nv 6 [a6, a7, a8, a9, a10, a11], nv 6 [b6, b7, b8, b9, b10, b11]]) rfl Try.call26 rfl) (fun W' h => sextAdd_r ra6 ra7 ra8 ra9 ra10 ra11 rb6 rb7 rb8 rb9 rb10 rb11 la6 la7 la8 la9 la10 la11 lb6 lb7 lb8 lb9 lb10 lb11 bv6 bv7 bv8 bv9 bv10 bv11 rv6 rv7 rv8 rv9 rv10 rv11 _)) ?_
    refine PlanInit.cons (ps_val (v := nv 6 [v0, v1, v2, v3, v4, v5, v6, v7, v8, v9, v10, v11]) rfl rfl rfl (fun W' h => ex_build stFp12 (vs := [(0, nv 6 [v0, v1, v2, v3, v4, v5]), (1, nv 6 [v6, v7, v8, v9, v10, v11])]) rfl (bdXY v0 v1 v2 v3 v4 v5 v6 v7 v8 v9 v10 v11))) ?_
    exact PlanInit.one
  refine last_store (t := 30) (xs := rows 6 [0, 0, 0, 0, 0, 0, 0, 0, 0, 0, 0, 0]) (ys := rows 6 [v0, v1, v2, v3, v4, v5, v6, v7, v8, v9, v10, v11]) rfl rfl (fun W' h => N7.keep h.out) (len_rows rfl) (fun W' h => ex_storen (K := 6) (l := [0, 0, 0, 0, 0, 0, 0, 0, 0, 0, 0, 0]) (m := [v0, v1, v2, v3, v4, v5, v6, v7, v8, v9, v10, v11]) flFp12 rfl rfl (N7.keep h.out) rfl) ?_
  intro w13 w14 hb13 N14 hst14 hoth14
  refine then_n ?_
  have A15 := A8.keep hb13.out
  have A16 := A9.keep hb13.out
  have A17 := N7.keep hb13.out
  have HB18 := below_then HB10 hb13.out
  have A19 := hoth14 _ _ _ (Nat.ne_of_lt A4.lt) A15
  have A20 := hoth14 _ _ _ (Nat.ne_of_lt N3.lt) A16
  have HB21 := hst14 _ _ HB18 HB5.size
  exact wp_ret (bodyPost_ret (ret_celln (K := 6) Try.results11 rfl N14 flFp12) rfl ⟨rfl, HB21⟩)

set_option maxRecDepth 20000 in
set_option maxHeartbeats 4000000 in
theorem fullConj_r {a0 a1 a2 a3 a4 a5 a6 a7 a8 a9 a10 a11 : Nat} {x0 x1 x2 x3 x4 x5 x6 x7 x8 x9 x10 x11 : Int} (ra0 : Rep a0 x0) (ra1 : Rep a1 x1) (ra2 : Rep a2 x2) (ra3 : Rep a3 x3) (ra4 : Rep a4 x4) (ra5 : Rep a5 x5) (ra6 : Rep a6 x6) (ra7 : Rep a7 x7) (ra8 : Rep a8 x8) (ra9 : Rep a9 x9) (ra10 : Rep a10 x10) (ra11 : Rep a11 x11) (la0 : a0 < fpB) (la1 : a1 < fpB) (la2 : a2 < fpB) (la3 : a3 < fpB) (la4 : a4 < fpB) (la5 : a5 < fpB) (la6 : a6 < fpB) (la7 : a7 < fpB) (la8 : a8 < fpB) (la9 : a9 < fpB) (la10 : a10 < fpB) (la11 : a11 < fpB) {v0 v1 v2 v3 v4 v5 v6 v7 v8 v9 v10 v11 : Nat} (bv0 : v0 < pN) (bv1 : v1 < pN) (bv2 : v2 < pN) (bv3 : v3 < pN) (bv4 : v4 < pN) (bv5 : v5 < pN) (bv6 : v6 < pN) (bv7 : v7 < pN) (bv8 : v8 < pN) (bv9 : v9 < pN) (bv10 : v10 < pN) (bv11 : v11 < pN) (rv0 : Rep v0 (x0)) (rv1 : Rep v1 (x1)) (rv2 : Rep v2 (x2)) (rv3 : Rep v3 (x3)) (rv4 : Rep v4 (x4)) (rv5 : Rep v5 (x5)) (rv6 : Rep v6 (-x6)) (rv7 : Rep v7 (-x7)) (rv8 : Rep v8 (-x8)) (rv9 : Rep v9 (-x9)) (rv10 : Rep v10 (-x10)) (rv11 : Rep v11 (-x11)) (w : World) :
    Calls Try.prog 13 #[nv 6 [a0, a1, a2, a3, a4, a5, a6, a7, a8, a9, a10, a11]] w (Is (nv 6 [v0, v1, v2, v3, v4, v5, v6, v7, v8, v9, v10, v11]) w) := by
  go_enter Try.func13, Try.ntmps13
  refine seq_lit ?_
  refine sq_new (a' := ⟨#[nv 6 [a0, a1, a2, a3, a4, a5, a6, a7, a8, a9, a10, a11], .pointer (some ⟨w.heap.size, 0, none⟩), undef, undef, undef, undef, undef, undef, undef, undef], []⟩) (xs := rows 6 [a0, a1, a2, a3, a4, a5, a6, a7, a8, a9, a10, a11]) rfl rfl (ex_boxn (K := 6) (l := [a0, a1, a2, a3, a4, a5, a6, a7, a8, a9, a10, a11]) rfl) ?_
  intro w1 N1 hb1
  have HB2 := below_then (Below.refl w.heap.size w) hb1
  refine sq_new (a' := ⟨#[nv 6 [a0, a1, a2, a3, a4, a5, a6, a7, a8, a9, a10, a11], .pointer (some ⟨w.heap.size, 0, none⟩), .pointer (some ⟨w1.heap.size, 0, none⟩), undef, undef, undef, undef, undef, undef, undef], []⟩) (xs := rows 6 [0, 0, 0, 0, 0, 0, 0, 0, 0, 0, 0, 0]) rfl rfl (ex_alloc zFp12) ?_
  intro w3 N3 hb3
  have A4 := N1.keep hb3
  have HB5 := below_then HB2 hb3
  refine seq_nil ?_
  refine wp_seq (wp_region_last (F := ⟨#[nv 6 [a0, a1, a2, a3, a4, a5, a6, a7, a8, a9, a10, a11], .pointer (some ⟨w.heap.size, 0, none⟩), .pointer (some ⟨w1.heap.size, 0, none⟩), .pointer (some ⟨w.heap.size, 0, none⟩), nv 6 [a0, a1, a2, a3, a4, a5], nv 6 [v0, v1, v2, v3, v4, v5], .pointer (some ⟨w.heap.size, 36, none⟩), nv 6 [a6, a7, a8, a9, a10, a11], nv 6 [v6, v7, v8, v9, v10, v11], nv 6 [v0, v1, v2, v3, v4, v5, v6, v7, v8, v9, v10, v11]], []⟩) (S := Bel w3) [(3, .pointer (some ⟨w.heap.size, 0, none⟩)), (4, nv 6 [a0, a1, a2, a3, a4, a5]), (5, nv 6 [v0, v1, v2, v3, v4, v5]), (6, .pointer (some ⟨w.heap.size, 36, none⟩)), (7, nv 6 [a6, a7, a8, a9, a10, a11]), (8, nv 6 [v6, v7, v8, v9, v10, v11]), (9, nv 6 [v0, v1, v2, v3, v4, v5, v6, v7, v8, v9, v10, v11])] 7 _ (by kernel_rfl) (by kernel_rfl) (by kernel_rfl) (by kernel_rfl) rfl rfl (by kernel_rfl) rfl (by simp only [putAll, List.setIfInBounds_toArray, List.set_cons_zero, List.set_cons_succ]) (Bel.start _) ?_ ?_)
  · refine PlanInit.cons (ps_val (v := .pointer (some ⟨w.heap.size, 0, none⟩)) rfl rfl rfl (fun W' h => ex_field faFp12_0 rfl)) ?_
    refine PlanInit.cons (ps_val (v := nv 6 [a0, a1, a2, a3, a4, a5]) rfl rfl rfl (fun W' h => ex_loadn (K := 6) (k := 0) (j := 6) (l := [a0, a1, a2, a3, a4, a5, a6, a7, a8, a9, a10, a11]) flFp6 rfl (A4.keep h.out) rfl _ rfl)) ?_
    refine PlanInit.cons (ps_call (v := nv 6 [v0, v1, v2, v3, v4, v5]) rfl rfl rfl (fun W' => ex_call (vs := [nv 6 [a0, a1, a2, a3, a4, a5]]) rfl Try.call25 rfl) (fun W' h => sextClean_r ra0 ra1 ra2 ra3 ra4 ra5 la0 la1 la2 la3 la4 la5 bv0 bv1 bv2 bv3 bv4 bv5 rv0 rv1 rv2 rv3 rv4 rv5 _)) ?_
    refine PlanInit.cons (ps_val (v := .pointer (some ⟨w.heap.size, 36, none⟩)) rfl rfl rfl (fun W' h => ex_field faFp12_1 rfl)) ?_
    refine PlanInit.cons (ps_val (v := nv 6 [a6, a7, a8, a9, a10, a11]) rfl rfl rfl (fun W' h => ex_loadn (K := 6) (k := 6) (j := 6) (l := [a0, a1, a2, a3, a4, a5, a6, a7, a8, a9, a10, a11]) flFp6 rfl (A4.keep h.out) rfl _ rfl)) ?_
    refine PlanInit.cons (ps_call (v := nv 6 [v6, v7, v8, v9, v10, v11]) rfl rfl rfl (fun W' => ex_call (vs := [nv 6 [a6, a7, a8, a9, a10, a11]]) rfl Try.call28 rfl) (fun W' h => sextNeg_r ra6 ra7 ra8 ra9 ra10 ra11 la6 la7 la8 la9 la10 la11 bv6 bv7 bv8 bv9 bv10 bv11 rv6 rv7 rv8 rv9 rv10 rv11 _)) ?_
    refine PlanInit.cons (ps_val (v := nv 6 [v0, v1, v2, v3, v4, v5, v6, v7, v8, v9, v10, v11]) rfl rfl rfl (fun W' h => ex_build stFp12 (vs := [(0, nv 6 [v0, v1, v2, v3, v4, v5]), (1, nv 6 [v6, v7, v8, v9, v10, v11])]) rfl (bdXY v0 v1 v2 v3 v4 v5 v6 v7 v8 v9 v10 v11))) ?_
    exact PlanInit.one
  refine last_store (t := 30) (xs := rows 6 [0, 0, 0, 0, 0, 0, 0, 0, 0, 0, 0, 0]) (ys := rows 6 [v0, v1, v2, v3, v4, v5, v6, v7, v8, v9, v10, v11]) rfl rfl (fun W' h => N3.keep h.out) (len_rows rfl) (fun W' h => ex_storen (K := 6) (l := [0, 0, 0, 0, 0, 0, 0, 0, 0, 0, 0, 0]) (m := [v0, v1, v2, v3, v4, v5, v6, v7, v8, v9, v10, v11]) flFp12 rfl rfl (N3.keep h.out) rfl) ?_
  intro w7 w8 hb7 N8 hst8 hoth8
  refine then_n ?_
  have A9 := A4.keep hb7.out
  have A10 := N3.keep hb7.out
  have HB11 := below_then HB5 hb7.out
  have A12 := hoth8 _ _ _ (Nat.ne_of_lt N1.lt) A9
  have HB13 := hst8 _ _ HB11 HB2.size
  exact wp_ret (bodyPost_ret (ret_celln (K := 6) Try.results13 rfl N8 flFp12) rfl ⟨rfl, HB13⟩)

set_option maxRecDepth 20000 in
set_option maxHeartbeats 4000000 in
theorem r7Clean_r {a0 a1 a2 a3 a4 a5 a6 a7 a8 a9 a10 a11 : Nat} {x0 x1 x2 x3 x4 x5 x6 x7 x8 x9 x10 x11 : Int} (ra0 : Rep a0 x0) (ra1 : Rep a1 x1) (ra2 : Rep a2 x2) (ra3 : Rep a3 x3) (ra4 : Rep a4 x4) (ra5 : Rep a5 x5) (ra6 : Rep a6 x6) (ra7 : Rep a7 x7) (ra8 : Rep a8 x8) (ra9 : Rep a9 x9) (ra10 : Rep a10 x10) (ra11 : Rep a11 x11) (la0 : a0 < fpB) (la1 : a1 < fpB) (la2 : a2 < fpB) (la3 : a3 < fpB) (la4 : a4 < fpB) (la5 : a5 < fpB) (la6 : a6 < fpB) (la7 : a7 < fpB) (la8 : a8 < fpB) (la9 : a9 < fpB) (la10 : a10 < fpB) (la11 : a11 < fpB) {v0 v1 v2 v3 v4 v5 v6 v7 v8 v9 v10 v11 : Nat} (bv0 : v0 < pN) (bv1 : v1 < pN) (bv2 : v2 < pN) (bv3 : v3 < pN) (bv4 : v4 < pN) (bv5 : v5 < pN) (bv6 : v6 < pN) (bv7 : v7 < pN) (bv8 : v8 < pN) (bv9 : v9 < pN) (bv10 : v10 < pN) (bv11 : v11 < pN) (rv0 : Rep v0 (x0)) (rv1 : Rep v1 (x1)) (rv2 : Rep v2 (x2)) (rv3 : Rep v3 (x3)) (rv4 : Rep v4 (x4)) (rv5 : Rep v5 (x5)) (rv6 : Rep v6 (x6)) (rv7 : Rep v7 (x7)) (rv8 : Rep v8 (x8)) (rv9 : Rep v9 (x9)) (rv10 : Rep v10 (x10)) (rv11 : Rep v11 (x11)) (w : World) :
    Calls Try.prog 8 #[nv 6 [a0, a1, a2, a3, a4, a5, a6, a7, a8, a9, a10, a11]] w (Is (nv 6 [v0, v1, v2, v3, v4, v5, v6, v7, v8, v9, v10, v11]) w) := by
  go_enter Try.func8, Try.ntmps8
  refine seq_lit ?_
  refine sq_new (a' := ⟨#[nv 6 [a0, a1, a2, a3, a4, a5, a6, a7, a8, a9, a10, a11], .pointer (some ⟨w.heap.size, 0, none⟩), undef, undef, undef, undef, undef, undef, undef, undef], []⟩) (xs := rows 6 [a0, a1, a2, a3, a4, a5, a6, a7, a8, a9, a10, a11]) rfl rfl (ex_boxn (K := 6) (l := [a0, a1, a2, a3, a4, a5, a6, a7, a8, a9, a10, a11]) rfl) ?_
  intro w1 N1 hb1
  have HB2 := below_then (Below.refl w.heap.size w) hb1
  refine sq_new (a' := ⟨#[nv 6 [a0, a1, a2, a3, a4, a5, a6, a7, a8, a9, a10, a11], .pointer (some ⟨w.heap.size, 0, none⟩), .pointer (some ⟨w1.heap.size, 0, none⟩), undef, undef, undef, undef, undef, undef, undef], []⟩) (xs := rows 6 [0, 0, 0, 0, 0, 0, 0, 0, 0, 0, 0, 0]) rfl rfl (ex_alloc zFp12) ?_
  intro w3 N3 hb3
  have A4 := N1.keep hb3
  have HB5 := below_then HB2 hb3
  refine seq_nil ?_
  refine wp_seq (wp_region_last (F := ⟨#[nv 6 [a0, a1, a2, a3, a4, a5, a6, a7, a8, a9, a10, a11], .pointer (some ⟨w.heap.size, 0, none⟩), .pointer (some ⟨w1.heap.size, 0, none⟩), .pointer (some ⟨w.heap.size, 0, none⟩), nv 6 [a0, a1, a2, a3, a4, a5], nv 6 [v0, v1, v2, v3, v4, v5], .pointer (some ⟨w.heap.size, 36, none⟩), nv 6 [a6, a7, a8, a9, a10, a11], nv 6 [v6, v7, v8, v9, v10, v11], nv 6 [v0, v1, v2, v3, v4, v5, v6, v7, v8, v9, v10, v11]], []⟩) (S := Bel w3) [(3, .pointer (some ⟨w.heap.size, 0, none⟩)), (4, nv 6 [a0, a1, a2, a3, a4, a5]), (5, nv 6 [v0, v1, v2, v3, v4, v5]), (6, .pointer (some ⟨w.heap.size, 36, none⟩)), (7, nv 6 [a6, a7, a8, a9, a10, a11]), (8, nv 6 [v6, v7, v8, v9, v10, v11]), (9, nv 6 [v0, v1, v2, v3, v4, v5, v6, v7, v8, v9, v10, v11])] 7 _ (by kernel_rfl) (by kernel_rfl) (by kernel_rfl) (by kernel_rfl) rfl rfl (by kernel_rfl) rfl (by simp only [putAll, List.setIfInBounds_toArray, List.set_cons_zero, List.set_cons_succ]) (Bel.start _) ?_ ?_)
  · refine PlanInit.cons (ps_val (v := .pointer (some ⟨w.heap.size, 0, none⟩)) rfl rfl rfl (fun W' h => ex_field faFp12_0 rfl)) ?_
    refine PlanInit.cons (ps_val (v := nv 6 [a0, a1, a2, a3, a4, a5]) rfl rfl rfl (fun W' h => ex_loadn (K := 6) (k := 0) (j := 6) (l := [a0, a1, a2, a3, a4, a5, a6, a7, a8, a9, a10, a11]) flFp6 rfl (A4.keep h.out) rfl _ rfl)) ?_
    refine PlanInit.cons (ps_call (v := nv 6 [v0, v1, v2, v3, v4, v5]) rfl rfl rfl (fun W' => ex_call (vs := [nv 6 [a0, a1, a2, a3, a4, a5]]) rfl Try.call23 rfl) (fun W' h => r6Clean_r ra0 ra1 ra2 ra3 ra4 ra5 la0 la1 la2 la3 la4 la5 bv0 bv1 bv2 bv3 bv4 bv5 rv0 rv1 rv2 rv3 rv4 rv5 _)) ?_
    refine PlanInit.cons (ps_val (v := .pointer (some ⟨w.heap.size, 36, none⟩)) rfl rfl rfl (fun W' h => ex_field faFp12_1 rfl)) ?_
    refine PlanInit.cons (ps_val (v := nv 6 [a6, a7, a8, a9, a10, a11]) rfl rfl rfl (fun W' h => ex_loadn (K := 6) (k := 6) (j := 6) (l := [a0, a1, a2, a3, a4, a5, a6, a7, a8, a9, a10, a11]) flFp6 rfl (A4.keep h.out) rfl _ rfl)) ?_
    refine PlanInit.cons (ps_call (v := nv 6 [v6, v7, v8, v9, v10, v11]) rfl rfl rfl (fun W' => ex_call (vs := [nv 6 [a6, a7, a8, a9, a10, a11]]) rfl Try.call23 rfl) (fun W' h => r6Clean_r ra6 ra7 ra8 ra9 ra10 ra11 la6 la7 la8 la9 la10 la11 bv6 bv7 bv8 bv9 bv10 bv11 rv6 rv7 rv8 rv9 rv10 rv11 _)) ?_
    refine PlanInit.cons (ps_val (v := nv 6 [v0, v1, v2, v3, v4, v5, v6, v7, v8, v9, v10, v11]) rfl rfl rfl (fun W' h => ex_build stFp12 (vs := [(0, nv 6 [v0, v1, v2, v3, v4, v5]), (1, nv 6 [v6, v7, v8, v9, v10, v11])]) rfl (bdXY v0 v1 v2 v3 v4 v5 v6 v7 v8 v9 v10 v11))) ?_
    exact PlanInit.one
  refine last_store (t := 30) (xs := rows 6 [0, 0, 0, 0, 0, 0, 0, 0, 0, 0, 0, 0]) (ys := rows 6 [v0, v1, v2, v3, v4, v5, v6, v7, v8, v9, v10, v11]) rfl rfl (fun W' h => N3.keep h.out) (len_rows rfl) (fun W' h => ex_storen (K := 6) (l := [0, 0, 0, 0, 0, 0, 0, 0, 0, 0, 0, 0]) (m := [v0, v1, v2, v3, v4, v5, v6, v7, v8, v9, v10, v11]) flFp12 rfl rfl (N3.keep h.out) rfl) ?_
  intro w7 w8 hb7 N8 hst8 hoth8
  refine then_n ?_
  have A9 := A4.keep hb7.out
  have A10 := N3.keep hb7.out
  have HB11 := below_then HB5 hb7.out
  have A12 := hoth8 _ _ _ (Nat.ne_of_lt N1.lt) A9
  have HB13 := hst8 _ _ HB11 HB2.size
  exact wp_ret (bodyPost_ret (ret_celln (K := 6) Try.results8 rfl N8 flFp12) rfl ⟨rfl, HB13⟩)

set_option maxRecDepth 20000 in
set_option maxHeartbeats 4000000 in
theorem r7Add_r {a0 a1 a2 a3 a4 a5 a6 a7 a8 a9 a10 a11 b0 b1 b2 b3 b4 b5 b6 b7 b8 b9 b10 b11 : Nat} {x0 x1 x2 x3 x4 x5 x6 x7 x8 x9 x10 x11 y0 y1 y2 y3 y4 y5 y6 y7 y8 y9 y10 y11 : Int} (ra0 : Rep a0 x0) (ra1 : Rep a1 x1) (ra2 : Rep a2 x2) (ra3 : Rep a3 x3) (ra4 : Rep a4 x4) (ra5 : Rep a5 x5) (ra6 : Rep a6 x6) (ra7 : Rep a7 x7) (ra8 : Rep a8 x8) (ra9 : Rep a9 x9) (ra10 : Rep a10 x10) (ra11 : Rep a11 x11) (rb0 : Rep b0 y0) (rb1 : Rep b1 y1) (rb2 : Rep b2 y2) (rb3 : Rep b3 y3) (rb4 : Rep b4 y4) (rb5 : Rep b5 y5) (rb6 : Rep b6 y6) (rb7 : Rep b7 y7) (rb8 : Rep b8 y8) (rb9 : Rep b9 y9) (rb10 : Rep b10 y10) (rb11 : Rep b11 y11) (la0 : a0 < pN) (la1 : a1 < pN) (la2 : a2 < pN) (la3 : a3 < pN) (la4 : a4 < pN) (la5 : a5 < pN) (la6 : a6 < pN) (la7 : a7 < pN) (la8 : a8 < pN) (la9 : a9 < pN) (la10 : a10 < pN) (la11 : a11 < pN) (lb0 : b0 < pN) (lb1 : b1 < pN) (lb2 : b2 < pN) (lb3 : b3 < pN) (lb4 : b4 < pN) (lb5 : b5 < pN) (lb6 : b6 < pN) (lb7 : b7 < pN) (lb8 : b8 < pN) (lb9 : b9 < pN) (lb10 : b10 < pN) (lb11 : b11 < pN) {v0 v1 v2 v3 v4 v5 v6 v7 v8 v9 v10 v11 : Nat} (bv0 : v0 < pN) (bv1 : v1 < pN) (bv2 : v2 < pN) (bv3 : v3 < pN) (bv4 : v4 < pN) (bv5 : v5 < pN) (bv6 : v6 < pN) (bv7 : v7 < pN) (bv8 : v8 < pN) (bv9 : v9 < pN) (bv10 : v10 < pN) (bv11 : v11 < pN) (rv0 : Rep v0 (x0 + y0)) (rv1 : Rep v1 (x1 + y1)) (rv2 : Rep v2 (x2 + y2)) (rv3 : Rep v3 (x3 + y3)) (rv4 : Rep v4 (x4 + y4)) (rv5 : Rep v5 (x5 + y5)) (rv6 : Rep v6 (x6 + y6)) (rv7 : Rep v7 (x7 + y7)) (rv8 : Rep v8 (x8 + y8)) (rv9 : Rep v9 (x9 + y9)) (rv10 : Rep v10 (x10 + y10)) (rv11 : Rep v11 (x11 + y11)) (w : World) :
    Calls Try.prog 12 #[nv 6 [a0, a1, a2, a3, a4, a5, a6, a7, a8, a9, a10, a11], nv 6 [b0, b1, b2, b3, b4, b5, b6, b7, b8, b9, b10, b11]] w (Is (nv 6 [v0, v1, v2, v3, v4, v5, v6, v7, v8, v9, v10, v11]) w) := by
  go_enter Try.func12, Try.ntmps12
  refine seq_lit ?_
  refine sq_new (a' := ⟨#[nv 6 [a0, a1, a2, a3, a4, a5, a6, a7, a8, a9, a10, a11], nv 6 [b0, b1, b2, b3, b4, b5, b6, b7, b8, b9, b10, b11], .pointer (some ⟨w.heap.size, 0, none⟩), undef, undef, undef, undef, undef, undef, undef, undef, undef, undef, undef, undef, undef], []⟩) (xs := rows 6 [a0, a1, a2, a3, a4, a5, a6, a7, a8, a9, a10, a11]) rfl rfl (ex_boxn (K := 6) (l := [a0, a1, a2, a3, a4, a5, a6, a7, a8, a9, a10, a11]) rfl) ?_
  intro w1 N1 hb1
  have HB2 := below_then (Below.refl w.heap.size w) hb1
  refine sq_new (a' := ⟨#[nv 6 [a0, a1, a2, a3, a4, a5, a6, a7, a8, a9, a10, a11], nv 6 [b0, b1, b2, b3, b4, b5, b6, b7, b8, b9, b10, b11], .pointer (some ⟨w.heap.size, 0, none⟩), .pointer (some ⟨w1.heap.size, 0, none⟩), undef, undef, undef, undef, undef, undef, undef, undef, undef, undef, undef, undef], []⟩) (xs := rows 6 [b0, b1, b2, b3, b4, b5, b6, b7, b8, b9, b10, b11]) rfl rfl (ex_boxn (K := 6) (l := [b0, b1, b2, b3, b4, b5, b6, b7, b8, b9, b10, b11]) rfl) ?_
  intro w3 N3 hb3
  have A4 := N1.keep hb3
  have HB5 := below_then HB2 hb3
  refine sq_new (a' := ⟨#[nv 6 [a0, a1, a2, a3, a4, a5, a6, a7, a8, a9, a10, a11], nv 6 [b0, b1, b2, b3, b4, b5, b6, b7, b8, b9, b10, b11], .pointer (some ⟨w.heap.size, 0, none⟩), .pointer (some ⟨w1.heap.size, 0, none⟩), .pointer (some ⟨w3.heap.size, 0, none⟩), undef, undef, undef, undef, undef, undef, undef, undef, undef, undef, undef], []⟩) (xs := rows 6 [0, 0, 0, 0, 0, 0, 0, 0, 0, 0, 0, 0]) rfl rfl (ex_alloc zFp12) ?_
  intro w7 N7 hb7
  have A8 := A4.keep hb7
  have A9 := N3.keep hb7
  have HB10 := below_then HB5 hb7
  refine seq_nil ?_
  refine wp_seq (wp_region_last (F := ⟨#[nv 6 [a0, a1, a2, a3, a4, a5, a6, a7, a8, a9, a10, a11], nv 6 [b0, b1, b2, b3, b4, b5, b6, b7, b8, b9, b10, b11], .pointer (some ⟨w.heap.size, 0, none⟩), .pointer (some ⟨w1.heap.size, 0, none⟩), .pointer (some ⟨w3.heap.size, 0, none⟩), .pointer (some ⟨w.heap.size, 0, none⟩), nv 6 [a0, a1, a2, a3, a4, a5], .pointer (some ⟨w1.heap.size, 0, none⟩), nv 6 [b0, b1, b2, b3, b4, b5], nv 6 [v0, v1, v2, v3, v4, v5], .pointer (some ⟨w.heap.size, 36, none⟩), nv 6 [a6, a7, a8, a9, a10, a11], .pointer (some ⟨w1.heap.size, 36, none⟩), nv 6 [b6, b7, b8, b9, b10, b11], nv 6 [v6, v7, v8, v9, v10, v11], nv 6 [v0, v1, v2, v3, v4, v5, v6, v7, v8, v9, v10, v11]], []⟩) (S := Bel w7) [(5, .pointer (some ⟨w.heap.size, 0, none⟩)), (6, nv 6 [a0, a1, a2, a3, a4, a5]), (7, .pointer (some ⟨w1.heap.size, 0, none⟩)), (8, nv 6 [b0, b1, b2, b3, b4, b5]), (9, nv 6 [v0, v1, v2, v3, v4, v5]), (10, .pointer (some ⟨w.heap.size, 36, none⟩)), (11, nv 6 [a6, a7, a8, a9, a10, a11]), (12, .pointer (some ⟨w1.heap.size, 36, none⟩)), (13, nv 6 [b6, b7, b8, b9, b10, b11]), (14, nv 6 [v6, v7, v8, v9, v10, v11]), (15, nv 6 [v0, v1, v2, v3, v4, v5, v6, v7, v8, v9, v10, v11])] 11 _ (by kernel_rfl) (by kernel_rfl) (by kernel_rfl) (by kernel_rfl) rfl rfl (by kernel_rfl) rfl (by simp only [putAll, List.setIfInBounds_toArray, List.set_cons_zero, List.set_cons_succ]) (Bel.start _) ?_ ?_)
  · refine PlanInit.cons (ps_val (v := .pointer (some ⟨w.heap.size, 0, none⟩)) rfl rfl rfl (fun W' h => ex_field faFp12_0 rfl)) ?_
    refine PlanInit.cons (ps_val (v := nv 6 [a0, a1, a2, a3, a4, a5]) rfl rfl rfl (fun W' h => ex_loadn (K := 6) (k := 0) (j := 6) (l := [a0, a1, a2, a3, a4, a5, a6, a7, a8, a9, a10, a11]) flFp6 rfl (A8.keep h.out) rfl _ rfl)) ?_
    refine PlanInit.cons (ps_val (v := .pointer (some ⟨w1.heap.size, 0, none⟩)) rfl rfl rfl (fun W' h => ex_field faFp12_0 rfl)) ?_
    refine PlanInit.cons (ps_val (v := nv 6 [b0, b1, b2, b3, b4, b5]) rfl rfl rfl (fun W' h => ex_loadn (K := 6) (k := 0) (j := 6) (l := [b0, b1, b2, b3, b4, b5, b6, b7, b8, b9, b10, b11]) flFp6 rfl (A9.keep h.out) rfl _ rfl)) ?_
    refine PlanInit.cons (ps_call (v := nv 6 [v0, v1, v2, v3, v4, v5]) rfl rfl rfl (fun W' => ex_call (vs := [nv 6 [a0, a1, a2, a3, a4, a5], nv 6 [b0, b1, b2, b3, b4, b5]]) rfl Try.call27 rfl) (fun W' h => r6Add_r ra0 ra1 ra2 ra3 ra4 ra5 rb0 rb1 rb2 rb3 rb4 rb5 la0 la1 la2 la3 la4 la5 lb0 lb1 lb2 lb3 lb4 lb5 bv0 bv1 bv2 bv3 bv4 bv5 rv0 rv1 rv2 rv3 rv4 rv5 _)) ?_
    refine PlanInit.cons (ps_val (v := .pointer (some ⟨w.heap.size, 36, none⟩)) rfl rfl rfl (fun W' h => ex_field faFp12_1 rfl)) ?_
    refine PlanInit.cons (ps_val (v := nv 6 [a6, a7, a8, a9, a10, a11]) rfl rfl rfl (fun W' h => ex_loadn (K := 6) (k := 6) (j := 6) (l := [a0, a1, a2, a3, a4, a5, a6, a7, a8, a9, a10, a11]) flFp6 rfl (A8.keep h.out) rfl _ rfl)) ?_
    refine PlanInit.cons (ps_val (v := .pointer (some ⟨w1.heap.size, 36, none⟩)) rfl rfl rfl (fun W' h => ex_field faFp12_1 rfl)) ?_
    refine PlanInit.cons (ps_val (v := nv 6 [b6, b7, b8, b9, b10, b11]) rfl rfl rfl (fun W' h => ex_loadn (K := 6) (k := 6) (j := 6) (l := [b0, b1, b2, b3, b4, b5, b6, b7, b8, b9, b10, b11]) flFp6 rfl (A9.keep h.out) rfl _ rfl)) ?_
    refine PlanInit.cons (ps_call (v := nv 6 [v6, v7, v8, v9, v10, v11]) rfl rfl rfl (fun W' => ex_call (vs := [nv 6 [a6, a7, a8, a9, a10, a11], nv 6 [b6, b7, b8, b9, b10, b11]]) rfl Try.call27 rfl) (fun W' h => r6Add_r ra6 ra7 ra8 ra9 ra10 ra11 rb6 rb7 rb8 rb9 rb10 rb11 la6 la7 la8 la9 la10 la11 lb6 lb7 lb8 lb9 lb10 lb11 bv6 bv7 bv8 bv9 bv10 bv11 rv6 rv7 rv8 rv9 rv10 rv11 _)) ?_
    refine PlanInit.cons (ps_val (v := nv 6 [v0, v1, v2, v3, v4, v5, v6, v7, v8, v9, v10, v11]) rfl rfl rfl (fun W' h => ex_build stFp12 (vs := [(0, nv 6 [v0, v1, v2, v3, v4, v5]), (1, nv 6 [v6, v7, v8, v9, v10, v11])]) rfl (bdXY v0 v1 v2 v3 v4 v5 v6 v7 v8 v9 v10 v11))) ?_
    exact PlanInit.one
  refine last_store (t := 30) (xs := rows 6 [0, 0, 0, 0, 0, 0, 0, 0, 0, 0, 0, 0]) (ys := rows 6 [v0, v1, v2, v3, v4, v5, v6, v7, v8, v9, v10, v11]) rfl rfl (fun W' h => N7.keep h.out) (len_rows rfl) (fun W' h => ex_storen (K := 6) (l := [0, 0, 0, 0, 0, 0, 0, 0, 0, 0, 0, 0]) (m := [v0, v1, v2, v3, v4, v5, v6, v7, v8, v9, v10, v11]) flFp12 rfl rfl (N7.keep h.out) rfl) ?_
  intro w13 w14 hb13 N14 hst14 hoth14
  refine then_n ?_
  have A15 := A8.keep hb13.out
  have A16 := A9.keep hb13.out
  have A17 := N7.keep hb13.out
  have HB18 := below_then HB10 hb13.out
  have A19 := hoth14 _ _ _ (Nat.ne_of_lt A4.lt) A15
  have A20 := hoth14 _ _ _ (Nat.ne_of_lt N3.lt) A16
  have HB21 := hst14 _ _ HB18 HB5.size
  exact wp_ret (bodyPost_ret (ret_celln (K := 6) Try.results12 rfl N14 flFp12) rfl ⟨rfl, HB21⟩)

set_option maxRecDepth 20000 in
set_option maxHeartbeats 4000000 in
theorem r7Conj_r {a0 a1 a2 a3 a4 a5 a6 a7 a8 a9 a10 a11 : Nat} {x0 x1 x2 x3 x4 x5 x6 x7 x8 x9 x10 x11 : Int} (ra0 : Rep a0 x0) (ra1 : Rep a1 x1) (ra2 : Rep a2 x2) (ra3 : Rep a3 x3) (ra4 : Rep a4 x4) (ra5 : Rep a5 x5) (ra6 : Rep a6 x6) (ra7 : Rep a7 x7) (ra8 : Rep a8 x8) (ra9 : Rep a9 x9) (ra10 : Rep a10 x10) (ra11 : Rep a11 x11) (la0 : a0 < pN) (la1 : a1 < pN) (la2 : a2 < pN) (la3 : a3 < pN) (la4 : a4 < pN) (la5 : a5 < pN) (la6 : a6 < pN) (la7 : a7 < pN) (la8 : a8 < pN) (la9 : a9 < pN) (la10 : a10 < pN) (la11 : a11 < pN) {v0 v1 v2 v3 v4 v5 v6 v7 v8 v9 v10 v11 : Nat} (bv0 : v0 < pN) (bv1 : v1 < pN) (bv2 : v2 < pN) (bv3 : v3 < pN) (bv4 : v4 < pN) (bv5 : v5 < pN) (bv6 : v6 < pN) (bv7 : v7 < pN) (bv8 : v8 < pN) (bv9 : v9 < pN) (bv10 : v10 < pN) (bv11 : v11 < pN) (rv0 : Rep v0 (x0)) (rv1 : Rep v1 (x1)) (rv2 : Rep v2 (x2)) (rv3 : Rep v3 (x3)) (rv4 : Rep v4 (x4)) (rv5 : Rep v5 (x5)) (rv6 : Rep v6 (-x6)) (rv7 : Rep v7 (-x7)) (rv8 : Rep v8 (-x8)) (rv9 : Rep v9 (-x9)) (rv10 : Rep v10 (-x10)) (rv11 : Rep v11 (-x11)) (w : World) :
    Calls Try.prog 14 #[nv 6 [a0, a1, a2, a3, a4, a5, a6, a7, a8, a9, a10, a11]] w (Is (nv 6 [v0, v1, v2, v3, v4, v5, v6, v7, v8, v9, v10, v11]) w) := by
  rw [rep_uniq bv0 la0 rv0 ra0 rfl, rep_uniq bv1 la1 rv1 ra1 rfl, rep_uniq bv2 la2 rv2 ra2 rfl, rep_uniq bv3 la3 rv3 ra3 rfl, rep_uniq bv4 la4 rv4 ra4 rfl, rep_uniq bv5 la5 rv5 ra5 rfl]
  go_enter Try.func14, Try.ntmps14
  refine seq_lit ?_
  refine sq_new (a' := ⟨#[nv 6 [a0, a1, a2, a3, a4, a5, a6, a7, a8, a9, a10, a11], .pointer (some ⟨w.heap.size, 0, none⟩), undef, undef, undef, undef, undef, undef, undef], []⟩) (xs := rows 6 [a0, a1, a2, a3, a4, a5, a6, a7, a8, a9, a10, a11]) rfl rfl (ex_boxn (K := 6) (l := [a0, a1, a2, a3, a4, a5, a6, a7, a8, a9, a10, a11]) rfl) ?_
  intro w1 N1 hb1
  have HB2 := below_then (Below.refl w.heap.size w) hb1
  refine sq_new (a' := ⟨#[nv 6 [a0, a1, a2, a3, a4, a5, a6, a7, a8, a9, a10, a11], .pointer (some ⟨w.heap.size, 0, none⟩), .pointer (some ⟨w1.heap.size, 0, none⟩), undef, undef, undef, undef, undef, undef], []⟩) (xs := rows 6 [0, 0, 0, 0, 0, 0, 0, 0, 0, 0, 0, 0]) rfl rfl (ex_alloc zFp12) ?_
  intro w3 N3 hb3
  have A4 := N1.keep hb3
  have HB5 := below_then HB2 hb3
  refine seq_nil ?_
  refine wp_seq (wp_region_last (F := ⟨#[nv 6 [a0, a1, a2, a3, a4, a5, a6, a7, a8, a9, a10, a11], .pointer (some ⟨w.heap.size, 0, none⟩), .pointer (some ⟨w1.heap.size, 0, none⟩), .pointer (some ⟨w.heap.size, 0, none⟩), nv 6 [a0, a1, a2, a3, a4, a5], .pointer (some ⟨w.heap.size, 36, none⟩), nv 6 [a6, a7, a8, a9, a10, a11], nv 6 [v6, v7, v8, v9, v10, v11], nv 6 [a0, a1, a2, a3, a4, a5, v6, v7, v8, v9, v10, v11]], []⟩) (S := Bel w3) [(3, .pointer (some ⟨w.heap.size, 0, none⟩)), (4, nv 6 [a0, a1, a2, a3, a4, a5]), (5, .pointer (some ⟨w.heap.size, 36, none⟩)), (6, nv 6 [a6, a7, a8, a9, a10, a11]), (7, nv 6 [v6, v7, v8, v9, v10, v11]), (8, nv 6 [a0, a1, a2, a3, a4, a5, v6, v7, v8, v9, v10, v11])] 6 _ (by kernel_rfl) (by kernel_rfl) (by kernel_rfl) (by kernel_rfl) rfl rfl (by kernel_rfl) rfl (by simp only [putAll, List.setIfInBounds_toArray, List.set_cons_zero, List.set_cons_succ]) (Bel.start _) ?_ ?_)
  · refine PlanInit.cons (ps_val (v := .pointer (some ⟨w.heap.size, 0, none⟩)) rfl rfl rfl (fun W' h => ex_field faFp12_0 rfl)) ?_
    refine PlanInit.cons (ps_val (v := nv 6 [a0, a1, a2, a3, a4, a5]) rfl rfl rfl (fun W' h => ex_loadn (K := 6) (k := 0) (j := 6) (l := [a0, a1, a2, a3, a4, a5, a6, a7, a8, a9, a10, a11]) flFp6 rfl (A4.keep h.out) rfl _ rfl)) ?_
    refine PlanInit.cons (ps_val (v := .pointer (some ⟨w.heap.size, 36, none⟩)) rfl rfl rfl (fun W' h => ex_field faFp12_1 rfl)) ?_
    refine PlanInit.cons (ps_val (v := nv 6 [a6, a7, a8, a9, a10, a11]) rfl rfl rfl (fun W' h => ex_loadn (K := 6) (k := 6) (j := 6) (l := [a0, a1, a2, a3, a4, a5, a6, a7, a8, a9, a10, a11]) flFp6 rfl (A4.keep h.out) rfl _ rfl)) ?_
    refine PlanInit.cons (ps_call (v := nv 6 [v6, v7, v8, v9, v10, v11]) rfl rfl rfl (fun W' => ex_call (vs := [nv 6 [a6, a7, a8, a9, a10, a11]]) rfl Try.call29 rfl) (fun W' h => r6Neg_r ra6 ra7 ra8 ra9 ra10 ra11 la6 la7 la8 la9 la10 la11 bv6 bv7 bv8 bv9 bv10 bv11 rv6 rv7 rv8 rv9 rv10 rv11 _)) ?_
    refine PlanInit.cons (ps_val (v := nv 6 [a0, a1, a2, a3, a4, a5, v6, v7, v8, v9, v10, v11]) rfl rfl rfl (fun W' h => ex_build stFp12 (vs := [(0, nv 6 [a0, a1, a2, a3, a4, a5]), (1, nv 6 [v6, v7, v8, v9, v10, v11])]) rfl (bdXY a0 a1 a2 a3 a4 a5 v6 v7 v8 v9 v10 v11))) ?_
    exact PlanInit.one
  refine last_store (t := 30) (xs := rows 6 [0, 0, 0, 0, 0, 0, 0, 0, 0, 0, 0, 0]) (ys := rows 6 [a0, a1, a2, a3, a4, a5, v6, v7, v8, v9, v10, v11]) rfl rfl (fun W' h => N3.keep h.out) (len_rows rfl) (fun W' h => ex_storen (K := 6) (l := [0, 0, 0, 0, 0, 0, 0, 0, 0, 0, 0, 0]) (m := [a0, a1, a2, a3, a4, a5, v6, v7, v8, v9, v10, v11]) flFp12 rfl rfl (N3.keep h.out) rfl) ?_
  intro w7 w8 hb7 N8 hst8 hoth8
  refine then_n ?_
  have A9 := A4.keep hb7.out
  have A10 := N3.keep hb7.out
  have HB11 := below_then HB5 hb7.out
  have A12 := hoth8 _ _ _ (Nat.ne_of_lt N1.lt) A9
  have HB13 := hst8 _ _ HB11 HB2.size
  exact wp_ret (bodyPost_ret (ret_celln (K := 6) Try.results14 rfl N8 flFp12) rfl ⟨rfl, HB13⟩)
end Go.Proofs.Ytodabjelnllkgaa

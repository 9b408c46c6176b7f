/- What is proved here: the law FullField. -/
import Derived.Test.YtodabjelnllkgaaFull3
namespace Go.Proofs.Ytodabjelnllkgaa
open Go.RowKit

set_option maxRecDepth 20000 in
set_option maxHeartbeats 4000000 in
theorem fullField_v (a b c : N12) (w : World) (la : ∀ x ∈ a.l, x < fpB) (lb : ∀ x ∈ b.l, x < fpB) (lc : ∀ x ∈ c.l, x < fpB) :
    Calls Try.prog 4 #[nv 6 a.l, nv 6 b.l, nv 6 c.l] w (Is (.bool true) w) := by
  obtain ⟨X, ha⟩ := qb_self a la
  obtain ⟨Y, hb⟩ := qb_self b lb
  obtain ⟨Z, hc⟩ := qb_self c lc
  obtain ⟨z, hz⟩ := qp_of (X)
  obtain ⟨s1, hs1⟩ := qp_of (E12.add X Y)
  obtain ⟨m1, hm1⟩ := qp_of (E12.mul X Y)
  obtain ⟨s2, hs2⟩ := qp_of (E12.add (E12.add X Y) Z)
  obtain ⟨s3, hs3⟩ := qp_of (E12.add Y Z)
  obtain ⟨m2, hm2⟩ := qp_of (E12.mul (E12.mul X Y) Z)
  obtain ⟨m3, hm3⟩ := qp_of (E12.mul Y Z)
  obtain ⟨m4, hm4⟩ := qp_of (E12.mul X Z)
  obtain ⟨d, hd⟩ := qp_of (E12.mul X (E12.add Y Z))
  obtain ⟨u, U, hu, hI, hN, hU⟩ := fullInv_q ha
  go_enter Try.func4, Try.ntmps4
  refine seq_lit ?_
  refine sq_new (a' := ⟨List.toArray ((nv 6 a.l) :: (nv 6 b.l) :: (nv 6 c.l) :: (.pointer (some ⟨w.heap.size, 0, none⟩)) :: undef :: undef :: undef :: undef :: undef :: undef :: undef :: undef :: undef :: undef :: undef :: undef :: undef :: undef :: undef :: undef :: undef :: undef :: undef :: undef :: undef :: undef :: undef :: undef :: undef :: undef :: undef :: undef :: undef :: undef :: undef :: undef :: undef :: undef :: undef :: undef :: undef :: undef :: undef :: undef :: undef :: undef :: undef :: undef :: undef :: undef :: undef :: undef :: undef :: undef :: undef :: undef :: undef :: undef :: undef :: undef :: undef :: undef :: undef :: undef :: undef :: undef :: undef :: undef :: undef :: undef :: undef :: undef :: undef :: undef :: undef :: undef :: undef :: undef :: undef :: undef :: undef :: undef :: undef :: undef :: undef :: undef :: undef :: undef :: undef :: undef :: undef :: undef :: undef :: undef :: undef :: undef :: undef :: undef :: undef :: undef :: undef :: undef :: undef :: undef :: undef :: undef :: undef :: undef :: undef :: undef :: undef :: undef :: undef :: undef :: undef :: undef :: undef :: undef :: undef :: undef :: undef :: []), []⟩) (xs := rows 6 a.l) rfl rfl (ex_boxn (K := 6) (l := a.l) rfl) ?_
  intro w1 N1 hb1
  have HB2 := below_then (Below.refl w.heap.size w) hb1
  refine sq_new (a' := ⟨List.toArray ((nv 6 a.l) :: (nv 6 b.l) :: (nv 6 c.l) :: (.pointer (some ⟨w.heap.size, 0, none⟩)) :: (.pointer (some ⟨w1.heap.size, 0, none⟩)) :: undef :: undef :: undef :: undef :: undef :: undef :: undef :: undef :: undef :: undef :: undef :: undef :: undef :: undef :: undef :: undef :: undef :: undef :: undef :: undef :: undef :: undef :: undef :: undef :: undef :: undef :: undef :: undef :: undef :: undef :: undef :: undef :: undef :: undef :: undef :: undef :: undef :: undef :: undef :: undef :: undef :: undef :: undef :: undef :: undef :: undef :: undef :: undef :: undef :: undef :: undef :: undef :: undef :: undef :: undef :: undef :: undef :: undef :: undef :: undef :: undef :: undef :: undef :: undef :: undef :: undef :: undef :: undef :: undef :: undef :: undef :: undef :: undef :: undef :: undef :: undef :: undef :: undef :: undef :: undef :: undef :: undef :: undef :: undef :: undef :: undef :: undef :: undef :: undef :: undef :: undef :: undef :: undef :: undef :: undef :: undef :: undef :: undef :: undef :: undef :: undef :: undef :: undef :: undef :: undef :: undef :: undef :: undef :: undef :: undef :: undef :: undef :: undef :: undef :: undef :: undef :: []), []⟩) (xs := rows 6 b.l) rfl rfl (ex_boxn (K := 6) (l := b.l) rfl) ?_
  intro w3 N3 hb3
  have A4 := N1.keep hb3
  have HB5 := below_then HB2 hb3
  refine sq_new (a' := ⟨List.toArray ((nv 6 a.l) :: (nv 6 b.l) :: (nv 6 c.l) :: (.pointer (some ⟨w.heap.size, 0, none⟩)) :: (.pointer (some ⟨w1.heap.size, 0, none⟩)) :: (.pointer (some ⟨w3.heap.size, 0, none⟩)) :: undef :: undef :: undef :: undef :: undef :: undef :: undef :: undef :: undef :: undef :: undef :: undef :: undef :: undef :: undef :: undef :: undef :: undef :: undef :: undef :: undef :: undef :: undef :: undef :: undef :: undef :: undef :: undef :: undef :: undef :: undef :: undef :: undef :: undef :: undef :: undef :: undef :: undef :: undef :: undef :: undef :: undef :: undef :: undef :: undef :: undef :: undef :: undef :: undef :: undef :: undef :: undef :: undef :: undef :: undef :: undef :: undef :: undef :: undef :: undef :: undef :: undef :: undef :: undef :: undef :: undef :: undef :: undef :: undef :: undef :: undef :: undef :: undef :: undef :: undef :: undef :: undef :: undef :: undef :: undef :: undef :: undef :: undef :: undef :: undef :: undef :: undef :: undef :: undef :: undef :: undef :: undef :: undef :: undef :: undef :: undef :: undef :: undef :: undef :: undef :: undef :: undef :: undef :: undef :: undef :: undef :: undef :: undef :: undef :: undef :: undef :: undef :: undef :: undef :: undef :: []), []⟩) (xs := rows 6 c.l) rfl rfl (ex_boxn (K := 6) (l := c.l) rfl) ?_
  intro w7 N7 hb7
  have A8 := A4.keep hb7
  have A9 := N3.keep hb7
  have HB10 := below_then HB5 hb7
  refine sq_val (a' := ⟨List.toArray ((nv 6 a.l) :: (nv 6 b.l) :: (nv 6 c.l) :: (.pointer (some ⟨w.heap.size, 0, none⟩)) :: (.pointer (some ⟨w1.heap.size, 0, none⟩)) :: (.pointer (some ⟨w3.heap.size, 0, none⟩)) :: (.bool false) :: undef :: undef :: undef :: undef :: undef :: undef :: undef :: undef :: undef :: undef :: undef :: undef :: undef :: undef :: undef :: undef :: undef :: undef :: undef :: undef :: undef :: undef :: undef :: undef :: undef :: undef :: undef :: undef :: undef :: undef :: undef :: undef :: undef :: undef :: undef :: undef :: undef :: undef :: undef :: undef :: undef :: undef :: undef :: undef :: undef :: undef :: undef :: undef :: undef :: undef :: undef :: undef :: undef :: undef :: undef :: undef :: undef :: undef :: undef :: undef :: undef :: undef :: undef :: undef :: undef :: undef :: undef :: undef :: undef :: undef :: undef :: undef :: undef :: undef :: undef :: undef :: undef :: undef :: undef :: undef :: undef :: undef :: undef :: undef :: undef :: undef :: undef :: undef :: undef :: undef :: undef :: undef :: undef :: undef :: undef :: undef :: undef :: undef :: undef :: undef :: undef :: undef :: undef :: undef :: undef :: undef :: undef :: undef :: undef :: undef :: undef :: undef :: undef :: undef :: []), []⟩) (v := .bool false) rfl rfl (ex_assign _) ?_
  refine seq_nil ?_
  refine seq_lit ?_
  refine sq_val (a' := ⟨List.toArray ((nv 6 a.l) :: (nv 6 b.l) :: (nv 6 c.l) :: (.pointer (some ⟨w.heap.size, 0, none⟩)) :: (.pointer (some ⟨w1.heap.size, 0, none⟩)) :: (.pointer (some ⟨w3.heap.size, 0, none⟩)) :: (.bool false) :: undef :: undef :: undef :: (nv 6 a.l) :: undef :: undef :: undef :: undef :: undef :: undef :: undef :: undef :: undef :: undef :: undef :: undef :: undef :: undef :: undef :: undef :: undef :: undef :: undef :: undef :: undef :: undef :: undef :: undef :: undef :: undef :: undef :: undef :: undef :: undef :: undef :: undef :: undef :: undef :: undef :: undef :: undef :: undef :: undef :: undef :: undef :: undef :: undef :: undef :: undef :: undef :: undef :: undef :: undef :: undef :: undef :: undef :: undef :: undef :: undef :: undef :: undef :: undef :: undef :: undef :: undef :: undef :: undef :: undef :: undef :: undef :: undef :: undef :: undef :: undef :: undef :: undef :: undef :: undef :: undef :: undef :: undef :: undef :: undef :: undef :: undef :: undef :: undef :: undef :: undef :: undef :: undef :: undef :: undef :: undef :: undef :: undef :: undef :: undef :: undef :: undef :: undef :: undef :: undef :: undef :: undef :: undef :: undef :: undef :: undef :: undef :: undef :: undef :: undef :: undef :: []), []⟩) (v := nv 6 a.l) rfl rfl (ex_loadn (K := 6) (k := 0) (j := 12) (l := a.l) flFp12 rfl A8 rfl _ rfl) ?_
  refine sq_call (a' := ⟨List.toArray ((nv 6 a.l) :: (nv 6 b.l) :: (nv 6 c.l) :: (.pointer (some ⟨w.heap.size, 0, none⟩)) :: (.pointer (some ⟨w1.heap.size, 0, none⟩)) :: (.pointer (some ⟨w3.heap.size, 0, none⟩)) :: (.bool false) :: undef :: undef :: undef :: (nv 6 a.l) :: (nv 6 z.l) :: undef :: undef :: undef :: undef :: undef :: undef :: undef :: undef :: undef :: undef :: undef :: undef :: undef :: undef :: undef :: undef :: undef :: undef :: undef :: undef :: undef :: undef :: undef :: undef :: undef :: undef :: undef :: undef :: undef :: undef :: undef :: undef :: undef :: undef :: undef :: undef :: undef :: undef :: undef :: undef :: undef :: undef :: undef :: undef :: undef :: undef :: undef :: undef :: undef :: undef :: undef :: undef :: undef :: undef :: undef :: undef :: undef :: undef :: undef :: undef :: undef :: undef :: undef :: undef :: undef :: undef :: undef :: undef :: undef :: undef :: undef :: undef :: undef :: undef :: undef :: undef :: undef :: undef :: undef :: undef :: undef :: undef :: undef :: undef :: undef :: undef :: undef :: undef :: undef :: undef :: undef :: undef :: undef :: undef :: undef :: undef :: undef :: undef :: undef :: undef :: undef :: undef :: undef :: undef :: undef :: undef :: undef :: undef :: undef :: []), []⟩) (v := nv 6 z.l) rfl rfl (ex_call (vs := [nv 6 a.l]) rfl Try.call10 rfl) (fullClean_q ha hz _) ?_
  intro w13 hb13
  have A14 := A8.keep hb13
  have A15 := A9.keep hb13
  have A16 := N7.keep hb13
  have HB17 := below_then HB10 hb13
  refine sq_new (a' := ⟨List.toArray ((nv 6 a.l) :: (nv 6 b.l) :: (nv 6 c.l) :: (.pointer (some ⟨w.heap.size, 0, none⟩)) :: (.pointer (some ⟨w1.heap.size, 0, none⟩)) :: (.pointer (some ⟨w3.heap.size, 0, none⟩)) :: (.bool false) :: undef :: undef :: (.pointer (some ⟨w13.heap.size, 0, none⟩)) :: (nv 6 a.l) :: (nv 6 z.l) :: undef :: undef :: undef :: undef :: undef :: undef :: undef :: undef :: undef :: undef :: undef :: undef :: undef :: undef :: undef :: undef :: undef :: undef :: undef :: undef :: undef :: undef :: undef :: undef :: undef :: undef :: undef :: undef :: undef :: undef :: undef :: undef :: undef :: undef :: undef :: undef :: undef :: undef :: undef :: undef :: undef :: undef :: undef :: undef :: undef :: undef :: undef :: undef :: undef :: undef :: undef :: undef :: undef :: undef :: undef :: undef :: undef :: undef :: undef :: undef :: undef :: undef :: undef :: undef :: undef :: undef :: undef :: undef :: undef :: undef :: undef :: undef :: undef :: undef :: undef :: undef :: undef :: undef :: undef :: undef :: undef :: undef :: undef :: undef :: undef :: undef :: undef :: undef :: undef :: undef :: undef :: undef :: undef :: undef :: undef :: undef :: undef :: undef :: undef :: undef :: undef :: undef :: undef :: undef :: undef :: undef :: undef :: undef :: undef :: []), []⟩) (xs := rows 6 [0, 0, 0, 0, 0, 0, 0, 0, 0, 0, 0, 0]) rfl rfl (ex_alloc zFp12) ?_
  intro w18 N18 hb18
  have A19 := A14.keep hb18
  have A20 := A15.keep hb18
  have A21 := A16.keep hb18
  have HB22 := below_then HB17 hb18
  refine sq_val (a' := ⟨List.toArray ((nv 6 a.l) :: (nv 6 b.l) :: (nv 6 c.l) :: (.pointer (some ⟨w.heap.size, 0, none⟩)) :: (.pointer (some ⟨w1.heap.size, 0, none⟩)) :: (.pointer (some ⟨w3.heap.size, 0, none⟩)) :: (.bool false) :: (.func (.func 11) #[] #[]) :: undef :: (.pointer (some ⟨w13.heap.size, 0, none⟩)) :: (nv 6 a.l) :: (nv 6 z.l) :: undef :: undef :: undef :: undef :: undef :: undef :: undef :: undef :: undef :: undef :: undef :: undef :: undef :: undef :: undef :: undef :: undef :: undef :: undef :: undef :: undef :: undef :: undef :: undef :: undef :: undef :: undef :: undef :: undef :: undef :: undef :: undef :: undef :: undef :: undef :: undef :: undef :: undef :: undef :: undef :: undef :: undef :: undef :: undef :: undef :: undef :: undef :: undef :: undef :: undef :: undef :: undef :: undef :: undef :: undef :: undef :: undef :: undef :: undef :: undef :: undef :: undef :: undef :: undef :: undef :: undef :: undef :: undef :: undef :: undef :: undef :: undef :: undef :: undef :: undef :: undef :: undef :: undef :: undef :: undef :: undef :: undef :: undef :: undef :: undef :: undef :: undef :: undef :: undef :: undef :: undef :: undef :: undef :: undef :: undef :: undef :: undef :: undef :: undef :: undef :: undef :: undef :: undef :: undef :: undef :: undef :: undef :: undef :: undef :: []), []⟩) (v := .func (.func 11) #[] #[]) rfl rfl (ex_assign _) ?_
  refine sq_val (a' := ⟨List.toArray ((nv 6 a.l) :: (nv 6 b.l) :: (nv 6 c.l) :: (.pointer (some ⟨w.heap.size, 0, none⟩)) :: (.pointer (some ⟨w1.heap.size, 0, none⟩)) :: (.pointer (some ⟨w3.heap.size, 0, none⟩)) :: (.bool false) :: (.func (.func 11) #[] #[]) :: (.func (.func 15) #[] #[]) :: (.pointer (some ⟨w13.heap.size, 0, none⟩)) :: (nv 6 a.l) :: (nv 6 z.l) :: undef :: undef :: undef :: undef :: undef :: undef :: undef :: undef :: undef :: undef :: undef :: undef :: undef :: undef :: undef :: undef :: undef :: undef :: undef :: undef :: undef :: undef :: undef :: undef :: undef :: undef :: undef :: undef :: undef :: undef :: undef :: undef :: undef :: undef :: undef :: undef :: undef :: undef :: undef :: undef :: undef :: undef :: undef :: undef :: undef :: undef :: undef :: undef :: undef :: undef :: undef :: undef :: undef :: undef :: undef :: undef :: undef :: undef :: undef :: undef :: undef :: undef :: undef :: undef :: undef :: undef :: undef :: undef :: undef :: undef :: undef :: undef :: undef :: undef :: undef :: undef :: undef :: undef :: undef :: undef :: undef :: undef :: undef :: undef :: undef :: undef :: undef :: undef :: undef :: undef :: undef :: undef :: undef :: undef :: undef :: undef :: undef :: undef :: undef :: undef :: undef :: undef :: undef :: undef :: undef :: undef :: undef :: undef :: undef :: []), []⟩) (v := .func (.func 15) #[] #[]) rfl rfl (ex_assign _) ?_
  refine sq_store (a' := ⟨List.toArray ((nv 6 a.l) :: (nv 6 b.l) :: (nv 6 c.l) :: (.pointer (some ⟨w.heap.size, 0, none⟩)) :: (.pointer (some ⟨w1.heap.size, 0, none⟩)) :: (.pointer (some ⟨w3.heap.size, 0, none⟩)) :: (.bool false) :: (.func (.func 11) #[] #[]) :: (.func (.func 15) #[] #[]) :: (.pointer (some ⟨w13.heap.size, 0, none⟩)) :: (nv 6 a.l) :: (nv 6 z.l) :: undef :: undef :: undef :: undef :: undef :: undef :: undef :: undef :: undef :: undef :: undef :: undef :: undef :: undef :: undef :: undef :: undef :: undef :: undef :: undef :: undef :: undef :: undef :: undef :: undef :: undef :: undef :: undef :: undef :: undef :: undef :: undef :: undef :: undef :: undef :: undef :: undef :: undef :: undef :: undef :: undef :: undef :: undef :: undef :: undef :: undef :: undef :: undef :: undef :: undef :: undef :: undef :: undef :: undef :: undef :: undef :: undef :: undef :: undef :: undef :: undef :: undef :: undef :: undef :: undef :: undef :: undef :: undef :: undef :: undef :: undef :: undef :: undef :: undef :: undef :: undef :: undef :: undef :: undef :: undef :: undef :: undef :: undef :: undef :: undef :: undef :: undef :: undef :: undef :: undef :: undef :: undef :: undef :: undef :: undef :: undef :: undef :: undef :: undef :: undef :: undef :: undef :: undef :: undef :: undef :: undef :: undef :: undef :: undef :: []), []⟩) (t := 30) (xs := rows 6 [0, 0, 0, 0, 0, 0, 0, 0, 0, 0, 0, 0]) (ys := rows 6 z.l) rfl rfl N18 (len_rows rfl) (ex_storen (K := 6) (l := [0, 0, 0, 0, 0, 0, 0, 0, 0, 0, 0, 0]) (m := z.l) flFp12 rfl rfl N18 rfl) ?_
  intro w26 N26 hst26 hoth26
  have A27 := hoth26 _ _ _ (Nat.ne_of_lt A14.lt) A19
  have A28 := hoth26 _ _ _ (Nat.ne_of_lt A15.lt) A20
  have A29 := hoth26 _ _ _ (Nat.ne_of_lt A16.lt) A21
  have HB30 := hst26 _ _ HB22 HB17.size
  refine seq_nil ?_
  refine wp_seq ?_
  simp only [List.append]
  refine wp_seq (wp_region_p (F := ⟨List.toArray ((nv 6 a.l) :: (nv 6 b.l) :: (nv 6 c.l) :: (.pointer (some ⟨w.heap.size, 0, none⟩)) :: (.pointer (some ⟨w1.heap.size, 0, none⟩)) :: (.pointer (some ⟨w3.heap.size, 0, none⟩)) :: (.bool false) :: (.func (.func 11) #[] #[]) :: (.func (.func 15) #[] #[]) :: (.pointer (some ⟨w13.heap.size, 0, none⟩)) :: (nv 6 a.l) :: (nv 6 z.l) :: (.func (.func 11) #[] #[]) :: (nv 6 a.l) :: (nv 6 b.l) :: (nv 6 s1.l) :: (.func (.func 11) #[] #[]) :: (nv 6 b.l) :: (nv 6 a.l) :: (nv 6 s1.l) :: (.bool false) :: (.bool false) :: (.func (.func 15) #[] #[]) :: (nv 6 a.l) :: (nv 6 b.l) :: (nv 6 m1.l) :: (.func (.func 15) #[] #[]) :: (nv 6 b.l) :: (nv 6 a.l) :: (nv 6 m1.l) :: (.bool false) :: (.bool false) :: (.bool false) :: (.func (.func 11) #[] #[]) :: (.func (.func 11) #[] #[]) :: (nv 6 a.l) :: (nv 6 b.l) :: (nv 6 s1.l) :: (nv 6 c.l) :: (nv 6 s2.l) :: (.func (.func 11) #[] #[]) :: (nv 6 a.l) :: (.func (.func 11) #[] #[]) :: (nv 6 b.l) :: (nv 6 c.l) :: (nv 6 s3.l) :: (nv 6 s2.l) :: (.bool false) :: (.bool false) :: (.bool false) :: (.func (.func 15) #[] #[]) :: (.func (.func 15) #[] #[]) :: (nv 6 a.l) :: (nv 6 b.l) :: (nv 6 m1.l) :: (nv 6 c.l) :: (nv 6 m2.l) :: (.func (.func 15) #[] #[]) :: (nv 6 a.l) :: (.func (.func 15) #[] #[]) :: (nv 6 b.l) :: (nv 6 c.l) :: (nv 6 m3.l) :: (nv 6 m2.l) :: (.bool false) :: (.bool false) :: (.bool false) :: (.func (.func 15) #[] #[]) :: (nv 6 a.l) :: (.func (.func 11) #[] #[]) :: (nv 6 b.l) :: (nv 6 c.l) :: (nv 6 s3.l) :: (nv 6 d.l) :: (.func (.func 11) #[] #[]) :: (.func (.func 15) #[] #[]) :: (nv 6 a.l) :: (nv 6 b.l) :: (nv 6 m1.l) :: (.func (.func 15) #[] #[]) :: (nv 6 a.l) :: (nv 6 c.l) :: (nv 6 m4.l) :: (nv 6 d.l) :: (.bool false) :: (.bool false) :: undef :: undef :: undef :: undef :: undef :: undef :: undef :: undef :: undef :: undef :: undef :: undef :: undef :: undef :: undef :: undef :: undef :: undef :: undef :: undef :: undef :: undef :: undef :: undef :: undef :: undef :: undef :: undef :: undef :: undef :: undef :: undef :: undef :: undef :: undef :: []), []⟩) (S := Bel w26) [(12, .func (.func 11) #[] #[]), (13, nv 6 a.l), (14, nv 6 b.l), (15, nv 6 s1.l), (16, .func (.func 11) #[] #[]), (17, nv 6 b.l), (18, nv 6 a.l), (19, nv 6 s1.l), (20, .bool false), (21, .bool false), (22, .func (.func 15) #[] #[]), (23, nv 6 a.l), (24, nv 6 b.l), (25, nv 6 m1.l), (26, .func (.func 15) #[] #[]), (27, nv 6 b.l), (28, nv 6 a.l), (29, nv 6 m1.l), (30, .bool false), (31, .bool false), (32, .bool false), (33, .func (.func 11) #[] #[]), (34, .func (.func 11) #[] #[]), (35, nv 6 a.l), (36, nv 6 b.l), (37, nv 6 s1.l), (38, nv 6 c.l), (39, nv 6 s2.l), (40, .func (.func 11) #[] #[]), (41, nv 6 a.l), (42, .func (.func 11) #[] #[]), (43, nv 6 b.l), (44, nv 6 c.l), (45, nv 6 s3.l), (46, nv 6 s2.l), (47, .bool false), (48, .bool false), (49, .bool false), (50, .func (.func 15) #[] #[]), (51, .func (.func 15) #[] #[]), (52, nv 6 a.l), (53, nv 6 b.l), (54, nv 6 m1.l), (55, nv 6 c.l), (56, nv 6 m2.l), (57, .func (.func 15) #[] #[]), (58, nv 6 a.l), (59, .func (.func 15) #[] #[]), (60, nv 6 b.l), (61, nv 6 c.l), (62, nv 6 m3.l), (63, nv 6 m2.l), (64, .bool false), (65, .bool false), (66, .bool false), (67, .func (.func 15) #[] #[]), (68, nv 6 a.l), (69, .func (.func 11) #[] #[]), (70, nv 6 b.l), (71, nv 6 c.l), (72, nv 6 s3.l), (73, nv 6 d.l), (74, .func (.func 11) #[] #[]), (75, .func (.func 15) #[] #[]), (76, nv 6 a.l), (77, nv 6 b.l), (78, nv 6 m1.l), (79, .func (.func 15) #[] #[]), (80, nv 6 a.l), (81, nv 6 c.l), (82, nv 6 m4.l), (83, nv 6 d.l), (84, .bool false), (85, .bool false)] (by kernel_rfl) (by kernel_rfl) (by kernel_rfl) (by kernel_rfl) rfl (by simp only [putAll, List.setIfInBounds_toArray, List.set_cons_zero, List.set_cons_succ]) (Bel.start _) ?_ ?_)
  · refine PlanSteps.cons (ps_val (v := .func (.func 11) #[] #[]) rfl rfl rfl (fun W' h => ex_move _)) ?_
    refine PlanSteps.cons (ps_val (v := nv 6 a.l) rfl rfl rfl (fun W' h => ex_loadn (K := 6) (k := 0) (j := 12) (l := a.l) flFp12 rfl (A27.keep h.out) rfl _ rfl)) ?_
    refine PlanSteps.cons (ps_val (v := nv 6 b.l) rfl rfl rfl (fun W' h => ex_loadn (K := 6) (k := 0) (j := 12) (l := b.l) flFp12 rfl (A28.keep h.out) rfl _ rfl)) ?_
    refine PlanSteps.cons (ps_call (v := nv 6 s1.l) rfl rfl rfl (fun W' => ex_call (vs := [nv 6 a.l, nv 6 b.l]) rfl Try.call11 rfl) (fun W' h => fullAdd_q ha hb hs1 _)) ?_
    refine PlanSteps.cons (ps_val (v := .func (.func 11) #[] #[]) rfl rfl rfl (fun W' h => ex_move _)) ?_
    refine PlanSteps.cons (ps_val (v := nv 6 b.l) rfl rfl rfl (fun W' h => ex_loadn (K := 6) (k := 0) (j := 12) (l := b.l) flFp12 rfl (A28.keep h.out) rfl _ rfl)) ?_
    refine PlanSteps.cons (ps_val (v := nv 6 a.l) rfl rfl rfl (fun W' h => ex_loadn (K := 6) (k := 0) (j := 12) (l := a.l) flFp12 rfl (A27.keep h.out) rfl _ rfl)) ?_
    refine PlanSteps.cons (ps_call (v := nv 6 s1.l) rfl rfl rfl (fun W' => ex_call (vs := [nv 6 b.l, nv 6 a.l]) rfl Try.call11 rfl) (fun W' h => fullAdd_q hb ha (hs1.of (E12.add_comm X Y)) _)) ?_
    refine PlanSteps.cons (ps_val (v := .bool false) rfl rfl rfl (fun W' h => ex_neqt (K := 6) (l := s1.l) eqFp12 rfl rfl rfl rfl)) ?_
    refine PlanSteps.cons (ps_val (v := .bool false) rfl rfl rfl (fun W' h => ex_move _)) ?_
    refine PlanSteps.cons (ps_val (v := .func (.func 15) #[] #[]) rfl rfl rfl (fun W' h => ex_move _)) ?_
    refine PlanSteps.cons (ps_val (v := nv 6 a.l) rfl rfl rfl (fun W' h => ex_loadn (K := 6) (k := 0) (j := 12) (l := a.l) flFp12 rfl (A27.keep h.out) rfl _ rfl)) ?_
    refine PlanSteps.cons (ps_val (v := nv 6 b.l) rfl rfl rfl (fun W' h => ex_loadn (K := 6) (k := 0) (j := 12) (l := b.l) flFp12 rfl (A28.keep h.out) rfl _ rfl)) ?_
    refine PlanSteps.cons (ps_call (v := nv 6 m1.l) rfl rfl rfl (fun W' => ex_call (vs := [nv 6 a.l, nv 6 b.l]) rfl Try.call15 rfl) (fun W' h => fullMul_q ha hb hm1 _)) ?_
    refine PlanSteps.cons (ps_val (v := .func (.func 15) #[] #[]) rfl rfl rfl (fun W' h => ex_move _)) ?_
    refine PlanSteps.cons (ps_val (v := nv 6 b.l) rfl rfl rfl (fun W' h => ex_loadn (K := 6) (k := 0) (j := 12) (l := b.l) flFp12 rfl (A28.keep h.out) rfl _ rfl)) ?_
    refine PlanSteps.cons (ps_val (v := nv 6 a.l) rfl rfl rfl (fun W' h => ex_loadn (K := 6) (k := 0) (j := 12) (l := a.l) flFp12 rfl (A27.keep h.out) rfl _ rfl)) ?_
    refine PlanSteps.cons (ps_call (v := nv 6 m1.l) rfl rfl rfl (fun W' => ex_call (vs := [nv 6 b.l, nv 6 a.l]) rfl Try.call15 rfl) (fun W' h => fullMul_q hb ha (hm1.of (E12.mul_comm X Y)) _)) ?_
    refine PlanSteps.cons (ps_val (v := .bool false) rfl rfl rfl (fun W' h => ex_neqt (K := 6) (l := m1.l) eqFp12 rfl rfl rfl rfl)) ?_
    refine PlanSteps.cons (ps_val (v := .bool false) rfl rfl rfl (fun W' h => ex_pick (r := false) rfl)) ?_
    refine PlanSteps.cons (ps_val (v := .bool false) rfl rfl rfl (fun W' h => ex_move _)) ?_
    refine PlanSteps.cons (ps_val (v := .func (.func 11) #[] #[]) rfl rfl rfl (fun W' h => ex_move _)) ?_
    refine PlanSteps.cons (ps_val (v := .func (.func 11) #[] #[]) rfl rfl rfl (fun W' h => ex_move _)) ?_
    refine PlanSteps.cons (ps_val (v := nv 6 a.l) rfl rfl rfl (fun W' h => ex_loadn (K := 6) (k := 0) (j := 12) (l := a.l) flFp12 rfl (A27.keep h.out) rfl _ rfl)) ?_
    refine PlanSteps.cons (ps_val (v := nv 6 b.l) rfl rfl rfl (fun W' h => ex_loadn (K := 6) (k := 0) (j := 12) (l := b.l) flFp12 rfl (A28.keep h.out) rfl _ rfl)) ?_
    refine PlanSteps.cons (ps_call (v := nv 6 s1.l) rfl rfl rfl (fun W' => ex_call (vs := [nv 6 a.l, nv 6 b.l]) rfl Try.call11 rfl) (fun W' h => fullAdd_q ha hb hs1 _)) ?_
    refine PlanSteps.cons (ps_val (v := nv 6 c.l) rfl rfl rfl (fun W' h => ex_loadn (K := 6) (k := 0) (j := 12) (l := c.l) flFp12 rfl (A29.keep h.out) rfl _ rfl)) ?_
    refine PlanSteps.cons (ps_call (v := nv 6 s2.l) rfl rfl rfl (fun W' => ex_call (vs := [nv 6 s1.l, nv 6 c.l]) rfl Try.call11 rfl) (fun W' h => fullAdd_q hs1.toB hc hs2 _)) ?_
    refine PlanSteps.cons (ps_val (v := .func (.func 11) #[] #[]) rfl rfl rfl (fun W' h => ex_move _)) ?_
    refine PlanSteps.cons (ps_val (v := nv 6 a.l) rfl rfl rfl (fun W' h => ex_loadn (K := 6) (k := 0) (j := 12) (l := a.l) flFp12 rfl (A27.keep h.out) rfl _ rfl)) ?_
    refine PlanSteps.cons (ps_val (v := .func (.func 11) #[] #[]) rfl rfl rfl (fun W' h => ex_move _)) ?_
    refine PlanSteps.cons (ps_val (v := nv 6 b.l) rfl rfl rfl (fun W' h => ex_loadn (K := 6) (k := 0) (j := 12) (l := b.l) flFp12 rfl (A28.keep h.out) rfl _ rfl)) ?_
    refine PlanSteps.cons (ps_val (v := nv 6 c.l) rfl rfl rfl (fun W' h => ex_loadn (K := 6) (k := 0) (j := 12) (l := c.l) flFp12 rfl (A29.keep h.out) rfl _ rfl)) ?_
    refine PlanSteps.cons (ps_call (v := nv 6 s3.l) rfl rfl rfl (fun W' => ex_call (vs := [nv 6 b.l, nv 6 c.l]) rfl Try.call11 rfl) (fun W' h => fullAdd_q hb hc hs3 _)) ?_
    refine PlanSteps.cons (ps_call (v := nv 6 s2.l) rfl rfl rfl (fun W' => ex_call (vs := [nv 6 a.l, nv 6 s3.l]) rfl Try.call11 rfl) (fun W' h => fullAdd_q ha hs3.toB (hs2.of (E12.add_assoc X Y Z)) _)) ?_
    refine PlanSteps.cons (ps_val (v := .bool false) rfl rfl rfl (fun W' h => ex_neqt (K := 6) (l := s2.l) eqFp12 rfl rfl rfl rfl)) ?_
    refine PlanSteps.cons (ps_val (v := .bool false) rfl rfl rfl (fun W' h => ex_pick (r := false) rfl)) ?_
    refine PlanSteps.cons (ps_val (v := .bool false) rfl rfl rfl (fun W' h => ex_move _)) ?_
    refine PlanSteps.cons (ps_val (v := .func (.func 15) #[] #[]) rfl rfl rfl (fun W' h => ex_move _)) ?_
    refine PlanSteps.cons (ps_val (v := .func (.func 15) #[] #[]) rfl rfl rfl (fun W' h => ex_move _)) ?_
    refine PlanSteps.cons (ps_val (v := nv 6 a.l) rfl rfl rfl (fun W' h => ex_loadn (K := 6) (k := 0) (j := 12) (l := a.l) flFp12 rfl (A27.keep h.out) rfl _ rfl)) ?_
    refine PlanSteps.cons (ps_val (v := nv 6 b.l) rfl rfl rfl (fun W' h => ex_loadn (K := 6) (k := 0) (j := 12) (l := b.l) flFp12 rfl (A28.keep h.out) rfl _ rfl)) ?_
    refine PlanSteps.cons (ps_call (v := nv 6 m1.l) rfl rfl rfl (fun W' => ex_call (vs := [nv 6 a.l, nv 6 b.l]) rfl Try.call15 rfl) (fun W' h => fullMul_q ha hb hm1 _)) ?_
    refine PlanSteps.cons (ps_val (v := nv 6 c.l) rfl rfl rfl (fun W' h => ex_loadn (K := 6) (k := 0) (j := 12) (l := c.l) flFp12 rfl (A29.keep h.out) rfl _ rfl)) ?_
    refine PlanSteps.cons (ps_call (v := nv 6 m2.l) rfl rfl rfl (fun W' => ex_call (vs := [nv 6 m1.l, nv 6 c.l]) rfl Try.call15 rfl) (fun W' h => fullMul_q hm1.toB hc hm2 _)) ?_
    refine PlanSteps.cons (ps_val (v := .func (.func 15) #[] #[]) rfl rfl rfl (fun W' h => ex_move _)) ?_
    refine PlanSteps.cons (ps_val (v := nv 6 a.l) rfl rfl rfl (fun W' h => ex_loadn (K := 6) (k := 0) (j := 12) (l := a.l) flFp12 rfl (A27.keep h.out) rfl _ rfl)) ?_
    refine PlanSteps.cons (ps_val (v := .func (.func 15) #[] #[]) rfl rfl rfl (fun W' h => ex_move _)) ?_
    refine PlanSteps.cons (ps_val (v := nv 6 b.l) rfl rfl rfl (fun W' h => ex_loadn (K := 6) (k := 0) (j := 12) (l := b.l) flFp12 rfl (A28.keep h.out) rfl _ rfl)) ?_
    refine PlanSteps.cons (ps_val (v := nv 6 c.l) rfl rfl rfl (fun W' h => ex_loadn (K := 6) (k := 0) (j := 12) (l := c.l) flFp12 rfl (A29.keep h.out) rfl _ rfl)) ?_
    refine PlanSteps.cons (ps_call (v := nv 6 m3.l) rfl rfl rfl (fun W' => ex_call (vs := [nv 6 b.l, nv 6 c.l]) rfl Try.call15 rfl) (fun W' h => fullMul_q hb hc hm3 _)) ?_
    refine PlanSteps.cons (ps_call (v := nv 6 m2.l) rfl rfl rfl (fun W' => ex_call (vs := [nv 6 a.l, nv 6 m3.l]) rfl Try.call15 rfl) (fun W' h => fullMul_q ha hm3.toB (hm2.of (E12.mul_assoc X Y Z)) _)) ?_
    refine PlanSteps.cons (ps_val (v := .bool false) rfl rfl rfl (fun W' h => ex_neqt (K := 6) (l := m2.l) eqFp12 rfl rfl rfl rfl)) ?_
    refine PlanSteps.cons (ps_val (v := .bool false) rfl rfl rfl (fun W' h => ex_pick (r := false) rfl)) ?_
    refine PlanSteps.cons (ps_val (v := .bool false) rfl rfl rfl (fun W' h => ex_move _)) ?_
    refine PlanSteps.cons (ps_val (v := .func (.func 15) #[] #[]) rfl rfl rfl (fun W' h => ex_move _)) ?_
    refine PlanSteps.cons (ps_val (v := nv 6 a.l) rfl rfl rfl (fun W' h => ex_loadn (K := 6) (k := 0) (j := 12) (l := a.l) flFp12 rfl (A27.keep h.out) rfl _ rfl)) ?_
    refine PlanSteps.cons (ps_val (v := .func (.func 11) #[] #[]) rfl rfl rfl (fun W' h => ex_move _)) ?_
    refine PlanSteps.cons (ps_val (v := nv 6 b.l) rfl rfl rfl (fun W' h => ex_loadn (K := 6) (k := 0) (j := 12) (l := b.l) flFp12 rfl (A28.keep h.out) rfl _ rfl)) ?_
    refine PlanSteps.cons (ps_val (v := nv 6 c.l) rfl rfl rfl (fun W' h => ex_loadn (K := 6) (k := 0) (j := 12) (l := c.l) flFp12 rfl (A29.keep h.out) rfl _ rfl)) ?_
    refine PlanSteps.cons (ps_call (v := nv 6 s3.l) rfl rfl rfl (fun W' => ex_call (vs := [nv 6 b.l, nv 6 c.l]) rfl Try.call11 rfl) (fun W' h => fullAdd_q hb hc hs3 _)) ?_
    refine PlanSteps.cons (ps_call (v := nv 6 d.l) rfl rfl rfl (fun W' => ex_call (vs := [nv 6 a.l, nv 6 s3.l]) rfl Try.call15 rfl) (fun W' h => fullMul_q ha hs3.toB hd _)) ?_
    refine PlanSteps.cons (ps_val (v := .func (.func 11) #[] #[]) rfl rfl rfl (fun W' h => ex_move _)) ?_
    refine PlanSteps.cons (ps_val (v := .func (.func 15) #[] #[]) rfl rfl rfl (fun W' h => ex_move _)) ?_
    refine PlanSteps.cons (ps_val (v := nv 6 a.l) rfl rfl rfl (fun W' h => ex_loadn (K := 6) (k := 0) (j := 12) (l := a.l) flFp12 rfl (A27.keep h.out) rfl _ rfl)) ?_
    refine PlanSteps.cons (ps_val (v := nv 6 b.l) rfl rfl rfl (fun W' h => ex_loadn (K := 6) (k := 0) (j := 12) (l := b.l) flFp12 rfl (A28.keep h.out) rfl _ rfl)) ?_
    refine PlanSteps.cons (ps_call (v := nv 6 m1.l) rfl rfl rfl (fun W' => ex_call (vs := [nv 6 a.l, nv 6 b.l]) rfl Try.call15 rfl) (fun W' h => fullMul_q ha hb hm1 _)) ?_
    refine PlanSteps.cons (ps_val (v := .func (.func 15) #[] #[]) rfl rfl rfl (fun W' h => ex_move _)) ?_
    refine PlanSteps.cons (ps_val (v := nv 6 a.l) rfl rfl rfl (fun W' h => ex_loadn (K := 6) (k := 0) (j := 12) (l := a.l) flFp12 rfl (A27.keep h.out) rfl _ rfl)) ?_
    refine PlanSteps.cons (ps_val (v := nv 6 c.l) rfl rfl rfl (fun W' h => ex_loadn (K := 6) (k := 0) (j := 12) (l := c.l) flFp12 rfl (A29.keep h.out) rfl _ rfl)) ?_
    refine PlanSteps.cons (ps_call (v := nv 6 m4.l) rfl rfl rfl (fun W' => ex_call (vs := [nv 6 a.l, nv 6 c.l]) rfl Try.call15 rfl) (fun W' h => fullMul_q ha hc hm4 _)) ?_
    refine PlanSteps.cons (ps_call (v := nv 6 d.l) rfl rfl rfl (fun W' => ex_call (vs := [nv 6 m1.l, nv 6 m4.l]) rfl Try.call11 rfl) (fun W' h => fullAdd_q hm1.toB hm4.toB (hd.of (E12.mul_add X Y Z)) _)) ?_
    refine PlanSteps.cons (ps_val (v := .bool false) rfl rfl rfl (fun W' h => ex_neqt (K := 6) (l := d.l) eqFp12 rfl rfl rfl rfl)) ?_
    refine PlanSteps.cons (ps_val (v := .bool false) rfl rfl rfl (fun W' h => ex_pick (r := false) rfl)) ?_
    exact PlanSteps.nil
  intro w31 hb31
  refine then_n ?_
  have A32 := A27.keep hb31.out
  have A33 := A28.keep hb31.out
  have A34 := A29.keep hb31.out
  have A35 := N26.keep hb31.out
  have HB36 := below_then HB30 hb31.out
  refine wp_cond_false rfl ?_
  refine wp_skip (then_n ?_)
  refine wp_seq ?_
  refine wp_seq (wp_region_p (F := ⟨List.toArray ((nv 6 a.l) :: (nv 6 b.l) :: (nv 6 c.l) :: (.pointer (some ⟨w.heap.size, 0, none⟩)) :: (.pointer (some ⟨w1.heap.size, 0, none⟩)) :: (.pointer (some ⟨w3.heap.size, 0, none⟩)) :: (.bool false) :: (.func (.func 11) #[] #[]) :: (.func (.func 15) #[] #[]) :: (.pointer (some ⟨w13.heap.size, 0, none⟩)) :: (nv 6 a.l) :: (nv 6 z.l) :: (.func (.func 11) #[] #[]) :: (nv 6 a.l) :: (nv 6 b.l) :: (nv 6 s1.l) :: (.func (.func 11) #[] #[]) :: (nv 6 b.l) :: (nv 6 a.l) :: (nv 6 s1.l) :: (.bool false) :: (.bool false) :: (.func (.func 15) #[] #[]) :: (nv 6 a.l) :: (nv 6 b.l) :: (nv 6 m1.l) :: (.func (.func 15) #[] #[]) :: (nv 6 b.l) :: (nv 6 a.l) :: (nv 6 m1.l) :: (.bool false) :: (.bool false) :: (.bool false) :: (.func (.func 11) #[] #[]) :: (.func (.func 11) #[] #[]) :: (nv 6 a.l) :: (nv 6 b.l) :: (nv 6 s1.l) :: (nv 6 c.l) :: (nv 6 s2.l) :: (.func (.func 11) #[] #[]) :: (nv 6 a.l) :: (.func (.func 11) #[] #[]) :: (nv 6 b.l) :: (nv 6 c.l) :: (nv 6 s3.l) :: (nv 6 s2.l) :: (.bool false) :: (.bool false) :: (.bool false) :: (.func (.func 15) #[] #[]) :: (.func (.func 15) #[] #[]) :: (nv 6 a.l) :: (nv 6 b.l) :: (nv 6 m1.l) :: (nv 6 c.l) :: (nv 6 m2.l) :: (.func (.func 15) #[] #[]) :: (nv 6 a.l) :: (.func (.func 15) #[] #[]) :: (nv 6 b.l) :: (nv 6 c.l) :: (nv 6 m3.l) :: (nv 6 m2.l) :: (.bool false) :: (.bool false) :: (.bool false) :: (.func (.func 15) #[] #[]) :: (nv 6 a.l) :: (.func (.func 11) #[] #[]) :: (nv 6 b.l) :: (nv 6 c.l) :: (nv 6 s3.l) :: (nv 6 d.l) :: (.func (.func 11) #[] #[]) :: (.func (.func 15) #[] #[]) :: (nv 6 a.l) :: (nv 6 b.l) :: (nv 6 m1.l) :: (.func (.func 15) #[] #[]) :: (nv 6 a.l) :: (nv 6 c.l) :: (nv 6 m4.l) :: (nv 6 d.l) :: (.bool false) :: (.bool false) :: (.func (.func 11) #[] #[]) :: (nv 6 a.l) :: (nv 6 [0, 0, 0, 0, 0, 0, 0, 0, 0, 0, 0, 0]) :: (nv 6 z.l) :: (nv 6 z.l) :: (.bool false) :: (.bool false) :: (.func (.func 15) #[] #[]) :: (nv 6 a.l) :: (nv 6 [1, 0, 0, 0, 0, 0, 0, 0, 0, 0, 0, 0]) :: (nv 6 z.l) :: (nv 6 z.l) :: (.bool false) :: (.bool false) :: undef :: undef :: undef :: undef :: undef :: undef :: undef :: undef :: undef :: undef :: undef :: undef :: undef :: undef :: undef :: undef :: undef :: undef :: undef :: undef :: undef :: []), []⟩) (S := Bel w31) [(86, .func (.func 11) #[] #[]), (87, nv 6 a.l), (88, nv 6 [0, 0, 0, 0, 0, 0, 0, 0, 0, 0, 0, 0]), (89, nv 6 z.l), (90, nv 6 z.l), (91, .bool false), (92, .bool false), (93, .func (.func 15) #[] #[]), (94, nv 6 a.l), (95, nv 6 [1, 0, 0, 0, 0, 0, 0, 0, 0, 0, 0, 0]), (96, nv 6 z.l), (97, nv 6 z.l), (98, .bool false), (99, .bool false)] (by kernel_rfl) (by kernel_rfl) (by kernel_rfl) (by kernel_rfl) rfl (by simp only [putAll, List.setIfInBounds_toArray, List.set_cons_zero, List.set_cons_succ]) (Bel.start _) ?_ ?_)
  · refine PlanSteps.cons (ps_val (v := .func (.func 11) #[] #[]) rfl rfl rfl (fun W' h => ex_move _)) ?_
    refine PlanSteps.cons (ps_val (v := nv 6 a.l) rfl rfl rfl (fun W' h => ex_loadn (K := 6) (k := 0) (j := 12) (l := a.l) flFp12 rfl (A32.keep h.out) rfl _ rfl)) ?_
    refine PlanSteps.cons (ps_val (v := nv 6 [0, 0, 0, 0, 0, 0, 0, 0, 0, 0, 0, 0]) rfl rfl rfl (fun W' h => ex_build stFp12 (vs := []) rfl (bd012))) ?_
    refine PlanSteps.cons (ps_call (v := nv 6 z.l) rfl rfl rfl (fun W' => ex_call (vs := [nv 6 a.l, nv 6 [0, 0, 0, 0, 0, 0, 0, 0, 0, 0, 0, 0]]) rfl Try.call11 rfl) (fun W' h => fullAdd_q ha qp_zero.toB (hz.of (E12.add_zero X).symm) _)) ?_
    refine PlanSteps.cons (ps_val (v := nv 6 z.l) rfl rfl rfl (fun W' h => ex_loadn (K := 6) (k := 0) (j := 12) (l := z.l) flFp12 rfl (A35.keep h.out) rfl _ rfl)) ?_
    refine PlanSteps.cons (ps_val (v := .bool false) rfl rfl rfl (fun W' h => ex_neqt (K := 6) (l := z.l) eqFp12 rfl rfl rfl rfl)) ?_
    refine PlanSteps.cons (ps_val (v := .bool false) rfl rfl rfl (fun W' h => ex_move _)) ?_
    refine PlanSteps.cons (ps_val (v := .func (.func 15) #[] #[]) rfl rfl rfl (fun W' h => ex_move _)) ?_
    refine PlanSteps.cons (ps_val (v := nv 6 a.l) rfl rfl rfl (fun W' h => ex_loadn (K := 6) (k := 0) (j := 12) (l := a.l) flFp12 rfl (A32.keep h.out) rfl _ rfl)) ?_
    refine PlanSteps.cons (ps_call (v := nv 6 [1, 0, 0, 0, 0, 0, 0, 0, 0, 0, 0, 0]) rfl rfl rfl (fun W' => ex_call (vs := []) rfl Try.call16 rfl) (fun W' h => fullOne_w _)) ?_
    refine PlanSteps.cons (ps_call (v := nv 6 z.l) rfl rfl rfl (fun W' => ex_call (vs := [nv 6 a.l, nv 6 [1, 0, 0, 0, 0, 0, 0, 0, 0, 0, 0, 0]]) rfl Try.call15 rfl) (fun W' h => fullMul_q ha qp_one.toB (hz.of (E12.mul_one X).symm) _)) ?_
    refine PlanSteps.cons (ps_val (v := nv 6 z.l) rfl rfl rfl (fun W' h => ex_loadn (K := 6) (k := 0) (j := 12) (l := z.l) flFp12 rfl (A35.keep h.out) rfl _ rfl)) ?_
    refine PlanSteps.cons (ps_val (v := .bool false) rfl rfl rfl (fun W' h => ex_neqt (K := 6) (l := z.l) eqFp12 rfl rfl rfl rfl)) ?_
    refine PlanSteps.cons (ps_val (v := .bool false) rfl rfl rfl (fun W' h => ex_pick (r := false) rfl)) ?_
    exact PlanSteps.nil
  intro w37 hb37
  refine then_n ?_
  have A38 := A32.keep hb37.out
  have A39 := A33.keep hb37.out
  have A40 := A34.keep hb37.out
  have A41 := A35.keep hb37.out
  have HB42 := below_then HB36 hb37.out
  refine wp_cond_false rfl ?_
  refine wp_skip (then_n ?_)
  by_cases hz0 : z = ⟨0, 0, 0, 0, 0, 0, 0, 0, 0, 0, 0, 0⟩
  · have hn : E12.Null X := null_of (hz0 ▸ hz)
    have HZ : ∀ w, Calls Try.prog 17 #[nv 6 a.l] w (Is (nv 6 z.l) w) := fun w => by
      have h := hI w
      rw [hN hn, ← hz0] at h
      exact h
    refine wp_seq (wp_region_p (F := ⟨List.toArray ((nv 6 a.l) :: (nv 6 b.l) :: (nv 6 c.l) :: (.pointer (some ⟨w.heap.size, 0, none⟩)) :: (.pointer (some ⟨w1.heap.size, 0, none⟩)) :: (.pointer (some ⟨w3.heap.size, 0, none⟩)) :: (.bool true) :: (.func (.func 11) #[] #[]) :: (.func (.func 15) #[] #[]) :: (.pointer (some ⟨w13.heap.size, 0, none⟩)) :: (nv 6 a.l) :: (nv 6 z.l) :: (.func (.func 11) #[] #[]) :: (nv 6 a.l) :: (nv 6 b.l) :: (nv 6 s1.l) :: (.func (.func 11) #[] #[]) :: (nv 6 b.l) :: (nv 6 a.l) :: (nv 6 s1.l) :: (.bool false) :: (.bool false) :: (.func (.func 15) #[] #[]) :: (nv 6 a.l) :: (nv 6 b.l) :: (nv 6 m1.l) :: (.func (.func 15) #[] #[]) :: (nv 6 b.l) :: (nv 6 a.l) :: (nv 6 m1.l) :: (.bool false) :: (.bool false) :: (.bool false) :: (.func (.func 11) #[] #[]) :: (.func (.func 11) #[] #[]) :: (nv 6 a.l) :: (nv 6 b.l) :: (nv 6 s1.l) :: (nv 6 c.l) :: (nv 6 s2.l) :: (.func (.func 11) #[] #[]) :: (nv 6 a.l) :: (.func (.func 11) #[] #[]) :: (nv 6 b.l) :: (nv 6 c.l) :: (nv 6 s3.l) :: (nv 6 s2.l) :: (.bool false) :: (.bool false) :: (.bool false) :: (.func (.func 15) #[] #[]) :: (.func (.func 15) #[] #[]) :: (nv 6 a.l) :: (nv 6 b.l) :: (nv 6 m1.l) :: (nv 6 c.l) :: (nv 6 m2.l) :: (.func (.func 15) #[] #[]) :: (nv 6 a.l) :: (.func (.func 15) #[] #[]) :: (nv 6 b.l) :: (nv 6 c.l) :: (nv 6 m3.l) :: (nv 6 m2.l) :: (.bool false) :: (.bool false) :: (.bool false) :: (.func (.func 15) #[] #[]) :: (nv 6 a.l) :: (.func (.func 11) #[] #[]) :: (nv 6 b.l) :: (nv 6 c.l) :: (nv 6 s3.l) :: (nv 6 d.l) :: (.func (.func 11) #[] #[]) :: (.func (.func 15) #[] #[]) :: (nv 6 a.l) :: (nv 6 b.l) :: (nv 6 m1.l) :: (.func (.func 15) #[] #[]) :: (nv 6 a.l) :: (nv 6 c.l) :: (nv 6 m4.l) :: (nv 6 d.l) :: (.bool false) :: (.bool false) :: (.func (.func 11) #[] #[]) :: (nv 6 a.l) :: (nv 6 [0, 0, 0, 0, 0, 0, 0, 0, 0, 0, 0, 0]) :: (nv 6 z.l) :: (nv 6 z.l) :: (.bool false) :: (.bool false) :: (.func (.func 15) #[] #[]) :: (nv 6 a.l) :: (nv 6 [1, 0, 0, 0, 0, 0, 0, 0, 0, 0, 0, 0]) :: (nv 6 z.l) :: (nv 6 z.l) :: (.bool false) :: (.bool false) :: (.bool true) :: (.bool true) :: (nv 6 z.l) :: (nv 6 [0, 0, 0, 0, 0, 0, 0, 0, 0, 0, 0, 0]) :: (.bool true) :: (.bool true) :: (nv 6 a.l) :: (nv 6 z.l) :: (nv 6 z.l) :: (.bool true) :: (.bool true) :: (.bool true) :: undef :: undef :: undef :: undef :: undef :: undef :: undef :: (.bool true) :: (.bool true) :: []), []⟩) (S := Bel w37) [(100, .bool true), (101, .bool true), (102, nv 6 z.l), (103, nv 6 [0, 0, 0, 0, 0, 0, 0, 0, 0, 0, 0, 0]), (104, .bool true), (105, .bool true), (106, nv 6 a.l), (107, nv 6 z.l), (108, nv 6 z.l), (109, .bool true), (110, .bool true), (111, .bool true), (112, undef), (113, undef), (114, undef), (115, undef), (116, undef), (117, undef), (118, undef), (119, .bool true), (120, .bool true), (6, .bool true)] (by kernel_rfl) (by kernel_rfl) (by kernel_rfl) (by kernel_rfl) rfl (by simp only [putAll, List.setIfInBounds_toArray, List.set_cons_zero, List.set_cons_succ]) (Bel.start _) ?_ ?_)
    · refine PlanSteps.cons (ps_call (v := .bool true) rfl rfl rfl (fun W' => ex_call (vs := []) rfl Try.call9 rfl) (fun W' h => fullalive_w _)) ?_
      refine PlanSteps.cons (ps_val (v := .bool true) rfl rfl rfl (fun W' h => ex_move _)) ?_
      refine PlanSteps.cons (ps_val (v := nv 6 z.l) rfl rfl rfl (fun W' h => ex_loadn (K := 6) (k := 0) (j := 12) (l := z.l) flFp12 rfl (A41.keep h.out) rfl _ rfl)) ?_
      refine PlanSteps.cons (ps_val (v := nv 6 [0, 0, 0, 0, 0, 0, 0, 0, 0, 0, 0, 0]) rfl rfl rfl (fun W' h => ex_build stFp12 (vs := []) rfl (bd012))) ?_
      refine PlanSteps.cons (ps_val (v := .bool true) rfl rfl rfl (fun W' h => ex_eqn (K := 6) (l := z.l) (m := [0, 0, 0, 0, 0, 0, 0, 0, 0, 0, 0, 0]) eqFp12 rfl rfl rfl rfl rfl hz.toB.all qp_zero_v rfl true (by rw [hz0]; exact (decide_eq_true rfl).symm))) ?_
      refine PlanSteps.cons (ps_val (v := .bool true) rfl rfl rfl (fun W' h => ex_move _)) ?_
      refine PlanSteps.cons (ps_val (v := nv 6 a.l) rfl rfl rfl (fun W' h => ex_loadn (K := 6) (k := 0) (j := 12) (l := a.l) flFp12 rfl (A38.keep h.out) rfl _ rfl)) ?_
      refine PlanSteps.cons (ps_call (v := nv 6 z.l) rfl rfl rfl (fun W' => ex_call (vs := [nv 6 a.l]) rfl Try.call17 rfl) (fun W' h => HZ _)) ?_
      refine PlanSteps.cons (ps_val (v := nv 6 z.l) rfl rfl rfl (fun W' h => ex_loadn (K := 6) (k := 0) (j := 12) (l := z.l) flFp12 rfl (A41.keep h.out) rfl _ rfl)) ?_
      refine PlanSteps.cons (ps_val (v := .bool true) rfl rfl rfl (fun W' h => ex_eqt (K := 6) (l := z.l) eqFp12 rfl rfl rfl rfl)) ?_
      refine PlanSteps.cons (ps_val (v := .bool true) rfl rfl rfl (fun W' h => ex_pick (r := true) rfl)) ?_
      refine PlanSteps.cons (ps_val (v := .bool true) rfl rfl rfl (fun W' h => ex_move _)) ?_
      refine PlanSteps.cons (ps_skip rfl rfl rfl) ?_
      refine PlanSteps.cons (ps_skip rfl rfl rfl) ?_
      refine PlanSteps.cons (ps_skip rfl rfl rfl) ?_
      refine PlanSteps.cons (ps_skip rfl rfl rfl) ?_
      refine PlanSteps.cons (ps_skip rfl rfl rfl) ?_
      refine PlanSteps.cons (ps_skip rfl rfl rfl) ?_
      refine PlanSteps.cons (ps_skip rfl rfl rfl) ?_
      refine PlanSteps.cons (ps_val (v := .bool true) rfl rfl rfl (fun W' h => ex_pick (r := true) rfl)) ?_
      refine PlanSteps.cons (ps_val (v := .bool true) rfl rfl rfl (fun W' h => ex_pick (r := true) rfl)) ?_
      refine PlanSteps.cons (ps_val (v := .bool true) rfl rfl rfl (fun W' h => ex_assign _)) ?_
      exact PlanSteps.nil
    intro w43 hb43
    refine then_n ?_
    have A44 := A38.keep hb43.out
    have A45 := A39.keep hb43.out
    have A46 := A40.keep hb43.out
    have A47 := A41.keep hb43.out
    have HB48 := below_then HB42 hb43.out
    exact wp_ret (bodyPost_ret (ret_tmp Try.results4 rfl) rfl ⟨rfl, HB48⟩)
  · have hn : ¬ E12.Null X := fun n => hz0 (hz.null n)
    have HO : QP _ (E12.mul X U) := qp_one.cong (hU hn).symm
    refine wp_seq (wp_region_p (F := ⟨List.toArray ((nv 6 a.l) :: (nv 6 b.l) :: (nv 6 c.l) :: (.pointer (some ⟨w.heap.size, 0, none⟩)) :: (.pointer (some ⟨w1.heap.size, 0, none⟩)) :: (.pointer (some ⟨w3.heap.size, 0, none⟩)) :: (.bool true) :: (.func (.func 11) #[] #[]) :: (.func (.func 15) #[] #[]) :: (.pointer (some ⟨w13.heap.size, 0, none⟩)) :: (nv 6 a.l) :: (nv 6 z.l) :: (.func (.func 11) #[] #[]) :: (nv 6 a.l) :: (nv 6 b.l) :: (nv 6 s1.l) :: (.func (.func 11) #[] #[]) :: (nv 6 b.l) :: (nv 6 a.l) :: (nv 6 s1.l) :: (.bool false) :: (.bool false) :: (.func (.func 15) #[] #[]) :: (nv 6 a.l) :: (nv 6 b.l) :: (nv 6 m1.l) :: (.func (.func 15) #[] #[]) :: (nv 6 b.l) :: (nv 6 a.l) :: (nv 6 m1.l) :: (.bool false) :: (.bool false) :: (.bool false) :: (.func (.func 11) #[] #[]) :: (.func (.func 11) #[] #[]) :: (nv 6 a.l) :: (nv 6 b.l) :: (nv 6 s1.l) :: (nv 6 c.l) :: (nv 6 s2.l) :: (.func (.func 11) #[] #[]) :: (nv 6 a.l) :: (.func (.func 11) #[] #[]) :: (nv 6 b.l) :: (nv 6 c.l) :: (nv 6 s3.l) :: (nv 6 s2.l) :: (.bool false) :: (.bool false) :: (.bool false) :: (.func (.func 15) #[] #[]) :: (.func (.func 15) #[] #[]) :: (nv 6 a.l) :: (nv 6 b.l) :: (nv 6 m1.l) :: (nv 6 c.l) :: (nv 6 m2.l) :: (.func (.func 15) #[] #[]) :: (nv 6 a.l) :: (.func (.func 15) #[] #[]) :: (nv 6 b.l) :: (nv 6 c.l) :: (nv 6 m3.l) :: (nv 6 m2.l) :: (.bool false) :: (.bool false) :: (.bool false) :: (.func (.func 15) #[] #[]) :: (nv 6 a.l) :: (.func (.func 11) #[] #[]) :: (nv 6 b.l) :: (nv 6 c.l) :: (nv 6 s3.l) :: (nv 6 d.l) :: (.func (.func 11) #[] #[]) :: (.func (.func 15) #[] #[]) :: (nv 6 a.l) :: (nv 6 b.l) :: (nv 6 m1.l) :: (.func (.func 15) #[] #[]) :: (nv 6 a.l) :: (nv 6 c.l) :: (nv 6 m4.l) :: (nv 6 d.l) :: (.bool false) :: (.bool false) :: (.func (.func 11) #[] #[]) :: (nv 6 a.l) :: (nv 6 [0, 0, 0, 0, 0, 0, 0, 0, 0, 0, 0, 0]) :: (nv 6 z.l) :: (nv 6 z.l) :: (.bool false) :: (.bool false) :: (.func (.func 15) #[] #[]) :: (nv 6 a.l) :: (nv 6 [1, 0, 0, 0, 0, 0, 0, 0, 0, 0, 0, 0]) :: (nv 6 z.l) :: (nv 6 z.l) :: (.bool false) :: (.bool false) :: (.bool true) :: (.bool true) :: (nv 6 z.l) :: (nv 6 [0, 0, 0, 0, 0, 0, 0, 0, 0, 0, 0, 0]) :: (.bool false) :: (.bool false) :: undef :: undef :: undef :: undef :: (.bool false) :: (.bool false) :: (.func (.func 15) #[] #[]) :: (nv 6 a.l) :: (nv 6 a.l) :: (nv 6 u.l) :: (nv 6 [1, 0, 0, 0, 0, 0, 0, 0, 0, 0, 0, 0]) :: (nv 6 [1, 0, 0, 0, 0, 0, 0, 0, 0, 0, 0, 0]) :: (.bool true) :: (.bool true) :: (.bool true) :: []), []⟩) (S := Bel w37) [(100, .bool true), (101, .bool true), (102, nv 6 z.l), (103, nv 6 [0, 0, 0, 0, 0, 0, 0, 0, 0, 0, 0, 0]), (104, .bool false), (105, .bool false), (106, undef), (107, undef), (108, undef), (109, undef), (110, .bool false), (111, .bool false), (112, .func (.func 15) #[] #[]), (113, nv 6 a.l), (114, nv 6 a.l), (115, nv 6 u.l), (116, nv 6 [1, 0, 0, 0, 0, 0, 0, 0, 0, 0, 0, 0]), (117, nv 6 [1, 0, 0, 0, 0, 0, 0, 0, 0, 0, 0, 0]), (118, .bool true), (119, .bool true), (120, .bool true), (6, .bool true)] (by kernel_rfl) (by kernel_rfl) (by kernel_rfl) (by kernel_rfl) rfl (by simp only [putAll, List.setIfInBounds_toArray, List.set_cons_zero, List.set_cons_succ]) (Bel.start _) ?_ ?_)
    · refine PlanSteps.cons (ps_call (v := .bool true) rfl rfl rfl (fun W' => ex_call (vs := []) rfl Try.call9 rfl) (fun W' h => fullalive_w _)) ?_
      refine PlanSteps.cons (ps_val (v := .bool true) rfl rfl rfl (fun W' h => ex_move _)) ?_
      refine PlanSteps.cons (ps_val (v := nv 6 z.l) rfl rfl rfl (fun W' h => ex_loadn (K := 6) (k := 0) (j := 12) (l := z.l) flFp12 rfl (A41.keep h.out) rfl _ rfl)) ?_
      refine PlanSteps.cons (ps_val (v := nv 6 [0, 0, 0, 0, 0, 0, 0, 0, 0, 0, 0, 0]) rfl rfl rfl (fun W' h => ex_build stFp12 (vs := []) rfl (bd012))) ?_
      refine PlanSteps.cons (ps_val (v := .bool false) rfl rfl rfl (fun W' h => ex_eqn (K := 6) (l := z.l) (m := [0, 0, 0, 0, 0, 0, 0, 0, 0, 0, 0, 0]) eqFp12 rfl rfl rfl rfl rfl hz.toB.all qp_zero_v rfl false (decide_eq_false (fun h => hz0 (n12_l h))).symm)) ?_
      refine PlanSteps.cons (ps_val (v := .bool false) rfl rfl rfl (fun W' h => ex_move _)) ?_
      refine PlanSteps.cons (ps_skip rfl rfl rfl) ?_
      refine PlanSteps.cons (ps_skip rfl rfl rfl) ?_
      refine PlanSteps.cons (ps_skip rfl rfl rfl) ?_
      refine PlanSteps.cons (ps_skip rfl rfl rfl) ?_
      refine PlanSteps.cons (ps_val (v := .bool false) rfl rfl rfl (fun W' h => ex_pick (r := false) rfl)) ?_
      refine PlanSteps.cons (ps_val (v := .bool false) rfl rfl rfl (fun W' h => ex_move _)) ?_
      refine PlanSteps.cons (ps_val (v := .func (.func 15) #[] #[]) rfl rfl rfl (fun W' h => ex_move _)) ?_
      refine PlanSteps.cons (ps_val (v := nv 6 a.l) rfl rfl rfl (fun W' h => ex_loadn (K := 6) (k := 0) (j := 12) (l := a.l) flFp12 rfl (A38.keep h.out) rfl _ rfl)) ?_
      refine PlanSteps.cons (ps_val (v := nv 6 a.l) rfl rfl rfl (fun W' h => ex_loadn (K := 6) (k := 0) (j := 12) (l := a.l) flFp12 rfl (A38.keep h.out) rfl _ rfl)) ?_
      refine PlanSteps.cons (ps_call (v := nv 6 u.l) rfl rfl rfl (fun W' => ex_call (vs := [nv 6 a.l]) rfl Try.call17 rfl) (fun W' h => hI _)) ?_
      refine PlanSteps.cons (ps_call (v := nv 6 [1, 0, 0, 0, 0, 0, 0, 0, 0, 0, 0, 0]) rfl rfl rfl (fun W' => ex_call (vs := [nv 6 a.l, nv 6 u.l]) rfl Try.call15 rfl) (fun W' h => fullMul_q ha hu.toB HO _)) ?_
      refine PlanSteps.cons (ps_call (v := nv 6 [1, 0, 0, 0, 0, 0, 0, 0, 0, 0, 0, 0]) rfl rfl rfl (fun W' => ex_call (vs := []) rfl Try.call16 rfl) (fun W' h => fullOne_w _)) ?_
      refine PlanSteps.cons (ps_val (v := .bool true) rfl rfl rfl (fun W' h => ex_eqt (K := 6) (l := [1, 0, 0, 0, 0, 0, 0, 0, 0, 0, 0, 0]) eqFp12 rfl rfl rfl rfl)) ?_
      refine PlanSteps.cons (ps_val (v := .bool true) rfl rfl rfl (fun W' h => ex_pick (r := false) rfl)) ?_
      refine PlanSteps.cons (ps_val (v := .bool true) rfl rfl rfl (fun W' h => ex_pick (r := true) rfl)) ?_
      refine PlanSteps.cons (ps_val (v := .bool true) rfl rfl rfl (fun W' h => ex_assign _)) ?_
      exact PlanSteps.nil
    intro w49 hb49
    refine then_n ?_
    have A50 := A38.keep hb49.out
    have A51 := A39.keep hb49.out
    have A52 := A40.keep hb49.out
    have A53 := A41.keep hb49.out
    have HB54 := below_then HB42 hb49.out
    exact wp_ret (bodyPost_ret (ret_tmp Try.results4 rfl) rfl ⟨rfl, HB54⟩)

end Go.Proofs.Ytodabjelnllkgaa

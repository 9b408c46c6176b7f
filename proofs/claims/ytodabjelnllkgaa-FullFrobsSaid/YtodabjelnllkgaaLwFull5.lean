/- What is proved here: the law FullFrobs. -/
import Derived.Test.YtodabjelnllkgaaFull4
import Derived.Test.YtodabjelnllkgaaFullPow
import Derived.Test.YtodabjelnllkgaaIntOps
namespace Go.Proofs.Ytodabjelnllkgaa
open Go.RowKit

set_option maxRecDepth 20000 in
set_option maxHeartbeats 4000000 in
theorem fullFrobs_v (a b : N12) (w : World) (la : ∀ x ∈ a.l, x < fpB) (lb : ∀ x ∈ b.l, x < fpB) :
    Calls Try.prog 6 #[nv 6 a.l, nv 6 b.l] w (Is (.bool true) w) := by
  obtain ⟨X, ha⟩ := qb_self a la
  obtain ⟨Y, hb⟩ := qb_self b lb
  obtain ⟨P, hP⟩ : ∃ P, P = pN := ⟨_, rfl⟩
  have hPB : P < fpB := hP ▸ fpM_lt
  obtain ⟨z, hz⟩ := qp_of (X)
  obtain ⟨f, hf⟩ := qp_of (E12.frobE X)
  obtain ⟨g, hg⟩ := qp_of (E12.frobE Y)
  obtain ⟨s, hs⟩ := qp_of (E12.add X Y)
  obtain ⟨m, hm⟩ := qp_of (E12.mul X Y)
  obtain ⟨p, hp⟩ := qp_of (E12.frobE (E12.add X Y))
  obtain ⟨q, hq⟩ := qp_of (E12.frobE (E12.mul X Y))
  obtain ⟨s2, hs2⟩ := qp_of (E12.frobE (E12.frobE X))
  obtain ⟨s3, hs3⟩ := qp_of (E12.frobE (E12.frobE (E12.frobE X)))
  obtain ⟨s4, hs4⟩ := qp_of (E12.frobE (E12.frobE (E12.frobE (E12.frobE X))))
  obtain ⟨s5, hs5⟩ := qp_of (E12.frobE (E12.frobE (E12.frobE (E12.frobE (E12.frobE X)))))
  obtain ⟨s6, hs6⟩ := qp_of (E12.frobE (E12.frobE (E12.frobE (E12.frobE (E12.frobE (E12.frobE X))))))
  have HP : ∀ W, Calls Try.prog 19 #[nv 6 a.l, nv 6 [pN]] W (Is (nv 6 f.l) W) := fun W => by
    rw [← hP]
    exact fullPow_q ha hPB (hf.cong (E12.frob_is hP X).symm) W
  have cA : E12.Cong (E12.frobE (E12.add X Y)) (E12.add (E12.frobE X) (E12.frobE Y)) := (E12.frob_is hP _).symm.trans ((E12.frob_add hP X Y).trans (E12.Cong.add (E12.frob_is hP X) (E12.frob_is hP Y)))
  have cM : E12.Cong (E12.frobE (E12.mul X Y)) (E12.mul (E12.frobE X) (E12.frobE Y)) := (E12.frob_is hP _).symm.trans ((E12.Cong.of (Semi.mul_pow S12 X Y P)).trans (E12.Cong.mul (E12.frob_is hP X) (E12.frob_is hP Y)))
  go_enter Try.func6, Try.ntmps6
  refine seq_lit ?_
  refine sq_new (a' := ⟨List.toArray ((nv 6 a.l) :: (nv 6 b.l) :: (.pointer (some ⟨w.heap.size, 0, none⟩)) :: undef :: undef :: undef :: undef :: undef :: undef :: undef :: undef :: undef :: undef :: undef :: undef :: undef :: undef :: undef :: undef :: undef :: undef :: undef :: undef :: undef :: undef :: undef :: undef :: undef :: undef :: undef :: undef :: undef :: undef :: undef :: undef :: undef :: undef :: undef :: undef :: undef :: undef :: undef :: undef :: undef :: undef :: undef :: undef :: undef :: undef :: undef :: undef :: undef :: undef :: undef :: undef :: undef :: undef :: undef :: undef :: undef :: undef :: undef :: undef :: undef :: undef :: undef :: undef :: undef :: []), []⟩) (xs := rows 6 a.l) rfl rfl (ex_boxn (K := 6) (l := a.l) rfl) ?_
  intro w1 N1 hb1
  have HB2 := below_then (Below.refl w.heap.size w) hb1
  refine sq_new (a' := ⟨List.toArray ((nv 6 a.l) :: (nv 6 b.l) :: (.pointer (some ⟨w.heap.size, 0, none⟩)) :: (.pointer (some ⟨w1.heap.size, 0, none⟩)) :: undef :: undef :: undef :: undef :: undef :: undef :: undef :: undef :: undef :: undef :: undef :: undef :: undef :: undef :: undef :: undef :: undef :: undef :: undef :: undef :: undef :: undef :: undef :: undef :: undef :: undef :: undef :: undef :: undef :: undef :: undef :: undef :: undef :: undef :: undef :: undef :: undef :: undef :: undef :: undef :: undef :: undef :: undef :: undef :: undef :: undef :: undef :: undef :: undef :: undef :: undef :: undef :: undef :: undef :: undef :: undef :: undef :: undef :: undef :: undef :: undef :: undef :: undef :: undef :: []), []⟩) (xs := rows 6 b.l) rfl rfl (ex_boxn (K := 6) (l := b.l) rfl) ?_
  intro w3 N3 hb3
  have A4 := N1.keep hb3
  have HB5 := below_then HB2 hb3
  refine sq_val (a' := ⟨List.toArray ((nv 6 a.l) :: (nv 6 b.l) :: (.pointer (some ⟨w.heap.size, 0, none⟩)) :: (.pointer (some ⟨w1.heap.size, 0, none⟩)) :: (.bool false) :: undef :: undef :: undef :: undef :: undef :: undef :: undef :: undef :: undef :: undef :: undef :: undef :: undef :: undef :: undef :: undef :: undef :: undef :: undef :: undef :: undef :: undef :: undef :: undef :: undef :: undef :: undef :: undef :: undef :: undef :: undef :: undef :: undef :: undef :: undef :: undef :: undef :: undef :: undef :: undef :: undef :: undef :: undef :: undef :: undef :: undef :: undef :: undef :: undef :: undef :: undef :: undef :: undef :: undef :: undef :: undef :: undef :: undef :: undef :: undef :: undef :: undef :: undef :: []), []⟩) (v := .bool false) rfl rfl (ex_assign _) ?_
  refine seq_nil ?_
  refine seq_lit ?_
  refine sq_val (a' := ⟨List.toArray ((nv 6 a.l) :: (nv 6 b.l) :: (.pointer (some ⟨w.heap.size, 0, none⟩)) :: (.pointer (some ⟨w1.heap.size, 0, none⟩)) :: (.bool false) :: (.func (.func 21) #[] #[]) :: undef :: undef :: undef :: undef :: undef :: undef :: undef :: undef :: undef :: undef :: undef :: undef :: undef :: undef :: undef :: undef :: undef :: undef :: undef :: undef :: undef :: undef :: undef :: undef :: undef :: undef :: undef :: undef :: undef :: undef :: undef :: undef :: undef :: undef :: undef :: undef :: undef :: undef :: undef :: undef :: undef :: undef :: undef :: undef :: undef :: undef :: undef :: undef :: undef :: undef :: undef :: undef :: undef :: undef :: undef :: undef :: undef :: undef :: undef :: undef :: undef :: undef :: []), []⟩) (v := .func (.func 21) #[] #[]) rfl rfl (ex_assign _) ?_
  refine seq_nil ?_
  refine seq_lit ?_
  refine sq_val (a' := ⟨List.toArray ((nv 6 a.l) :: (nv 6 b.l) :: (.pointer (some ⟨w.heap.size, 0, none⟩)) :: (.pointer (some ⟨w1.heap.size, 0, none⟩)) :: (.bool false) :: (.func (.func 21) #[] #[]) :: undef :: (nv 6 a.l) :: undef :: undef :: undef :: undef :: undef :: undef :: undef :: undef :: undef :: undef :: undef :: undef :: undef :: undef :: undef :: undef :: undef :: undef :: undef :: undef :: undef :: undef :: undef :: undef :: undef :: undef :: undef :: undef :: undef :: undef :: undef :: undef :: undef :: undef :: undef :: undef :: undef :: undef :: undef :: undef :: undef :: undef :: undef :: undef :: undef :: undef :: undef :: undef :: undef :: undef :: undef :: undef :: undef :: undef :: undef :: undef :: undef :: undef :: undef :: undef :: []), []⟩) (v := nv 6 a.l) rfl rfl (ex_loadn (K := 6) (k := 0) (j := 12) (l := a.l) flFp12 rfl A4 rfl _ rfl) ?_
  refine sq_new (a' := ⟨List.toArray ((nv 6 a.l) :: (nv 6 b.l) :: (.pointer (some ⟨w.heap.size, 0, none⟩)) :: (.pointer (some ⟨w1.heap.size, 0, none⟩)) :: (.bool false) :: (.func (.func 21) #[] #[]) :: (.pointer (some ⟨w3.heap.size, 0, none⟩)) :: (nv 6 a.l) :: undef :: undef :: undef :: undef :: undef :: undef :: undef :: undef :: undef :: undef :: undef :: undef :: undef :: undef :: undef :: undef :: undef :: undef :: undef :: undef :: undef :: undef :: undef :: undef :: undef :: undef :: undef :: undef :: undef :: undef :: undef :: undef :: undef :: undef :: undef :: undef :: undef :: undef :: undef :: undef :: undef :: undef :: undef :: undef :: undef :: undef :: undef :: undef :: undef :: undef :: undef :: undef :: undef :: undef :: undef :: undef :: undef :: undef :: undef :: undef :: []), []⟩) (xs := rows 6 [0, 0, 0, 0, 0, 0, 0, 0, 0, 0, 0, 0]) rfl rfl (ex_alloc zFp12) ?_
  intro w7 N7 hb7
  have A8 := A4.keep hb7
  have A9 := N3.keep hb7
  have HB10 := below_then HB5 hb7
  refine sq_store (a' := ⟨List.toArray ((nv 6 a.l) :: (nv 6 b.l) :: (.pointer (some ⟨w.heap.size, 0, none⟩)) :: (.pointer (some ⟨w1.heap.size, 0, none⟩)) :: (.bool false) :: (.func (.func 21) #[] #[]) :: (.pointer (some ⟨w3.heap.size, 0, none⟩)) :: (nv 6 a.l) :: undef :: undef :: undef :: undef :: undef :: undef :: undef :: undef :: undef :: undef :: undef :: undef :: undef :: undef :: undef :: undef :: undef :: undef :: undef :: undef :: undef :: undef :: undef :: undef :: undef :: undef :: undef :: undef :: undef :: undef :: undef :: undef :: undef :: undef :: undef :: undef :: undef :: undef :: undef :: undef :: undef :: undef :: undef :: undef :: undef :: undef :: undef :: undef :: undef :: undef :: undef :: undef :: undef :: undef :: undef :: undef :: undef :: undef :: undef :: undef :: []), []⟩) (t := 30) (xs := rows 6 [0, 0, 0, 0, 0, 0, 0, 0, 0, 0, 0, 0]) (ys := rows 6 a.l) rfl rfl N7 (len_rows rfl) (ex_storen (K := 6) (l := [0, 0, 0, 0, 0, 0, 0, 0, 0, 0, 0, 0]) (m := a.l) flFp12 rfl rfl N7 rfl) ?_
  intro w13 N13 hst13 hoth13
  have A14 := hoth13 _ _ _ (Nat.ne_of_lt A4.lt) A8
  have A15 := hoth13 _ _ _ (Nat.ne_of_lt N3.lt) A9
  have HB16 := hst13 _ _ HB10 HB5.size
  refine seq_nil ?_
  refine wp_seq ?_
  refine seq_lit ?_
  refine sq_val (a' := ⟨List.toArray ((nv 6 a.l) :: (nv 6 b.l) :: (.pointer (some ⟨w.heap.size, 0, none⟩)) :: (.pointer (some ⟨w1.heap.size, 0, none⟩)) :: (.bool false) :: (.func (.func 21) #[] #[]) :: (.pointer (some ⟨w3.heap.size, 0, none⟩)) :: (nv 6 a.l) :: (.int .i64 0) :: undef :: undef :: undef :: undef :: undef :: undef :: undef :: undef :: undef :: undef :: undef :: undef :: undef :: undef :: undef :: undef :: undef :: undef :: undef :: undef :: undef :: undef :: undef :: undef :: undef :: undef :: undef :: undef :: undef :: undef :: undef :: undef :: undef :: undef :: undef :: undef :: undef :: undef :: undef :: undef :: undef :: undef :: undef :: undef :: undef :: undef :: undef :: undef :: undef :: undef :: undef :: undef :: undef :: undef :: undef :: undef :: undef :: undef :: undef :: []), []⟩) (v := .int .i64 0) rfl rfl (ex_move _) ?_
  refine seq_nil ?_
  refine wp_block ?_
  refine wp_loop_rounds 7 ?_
  rw [rounds_succ]
  refine seq_lit ?_
  refine sq_val (a' := ⟨List.toArray ((nv 6 a.l) :: (nv 6 b.l) :: (.pointer (some ⟨w.heap.size, 0, none⟩)) :: (.pointer (some ⟨w1.heap.size, 0, none⟩)) :: (.bool false) :: (.func (.func 21) #[] #[]) :: (.pointer (some ⟨w3.heap.size, 0, none⟩)) :: (nv 6 a.l) :: (.int .i64 0) :: (.bool true) :: undef :: undef :: undef :: undef :: undef :: undef :: undef :: undef :: undef :: undef :: undef :: undef :: undef :: undef :: undef :: undef :: undef :: undef :: undef :: undef :: undef :: undef :: undef :: undef :: undef :: undef :: undef :: undef :: undef :: undef :: undef :: undef :: undef :: undef :: undef :: undef :: undef :: undef :: undef :: undef :: undef :: undef :: undef :: undef :: undef :: undef :: undef :: undef :: undef :: undef :: undef :: undef :: undef :: undef :: undef :: undef :: undef :: undef :: []), []⟩) (v := .bool true) rfl rfl (ex_ilss rfl rfl true rfl) ?_
  refine seq_nil ?_
  refine wp_seq ?_
  refine wp_cond_true rfl ?_
  refine wp_skip ?_
  refine then_n ?_
  refine wp_seq ?_
  refine wp_block ?_
  refine wp_region_lit ?_
  refine sq_val (a' := ⟨List.toArray ((nv 6 a.l) :: (nv 6 b.l) :: (.pointer (some ⟨w.heap.size, 0, none⟩)) :: (.pointer (some ⟨w1.heap.size, 0, none⟩)) :: (.bool false) :: (.func (.func 21) #[] #[]) :: (.pointer (some ⟨w3.heap.size, 0, none⟩)) :: (nv 6 a.l) :: (.int .i64 0) :: (.bool true) :: (.func (.func 21) #[] #[]) :: undef :: undef :: undef :: undef :: undef :: undef :: undef :: undef :: undef :: undef :: undef :: undef :: undef :: undef :: undef :: undef :: undef :: undef :: undef :: undef :: undef :: undef :: undef :: undef :: undef :: undef :: undef :: undef :: undef :: undef :: undef :: undef :: undef :: undef :: undef :: undef :: undef :: undef :: undef :: undef :: undef :: undef :: undef :: undef :: undef :: undef :: undef :: undef :: undef :: undef :: undef :: undef :: undef :: undef :: undef :: undef :: undef :: []), []⟩) (v := .func (.func 21) #[] #[]) rfl rfl (ex_move _) ?_
  refine sq_val (a' := ⟨List.toArray ((nv 6 a.l) :: (nv 6 b.l) :: (.pointer (some ⟨w.heap.size, 0, none⟩)) :: (.pointer (some ⟨w1.heap.size, 0, none⟩)) :: (.bool false) :: (.func (.func 21) #[] #[]) :: (.pointer (some ⟨w3.heap.size, 0, none⟩)) :: (nv 6 a.l) :: (.int .i64 0) :: (.bool true) :: (.func (.func 21) #[] #[]) :: (nv 6 a.l) :: undef :: undef :: undef :: undef :: undef :: undef :: undef :: undef :: undef :: undef :: undef :: undef :: undef :: undef :: undef :: undef :: undef :: undef :: undef :: undef :: undef :: undef :: undef :: undef :: undef :: undef :: undef :: undef :: undef :: undef :: undef :: undef :: undef :: undef :: undef :: undef :: undef :: undef :: undef :: undef :: undef :: undef :: undef :: undef :: undef :: undef :: undef :: undef :: undef :: undef :: undef :: undef :: undef :: undef :: undef :: undef :: []), []⟩) (v := nv 6 a.l) rfl rfl (ex_loadn (K := 6) (k := 0) (j := 12) (l := a.l) flFp12 rfl N13 rfl _ rfl) ?_
  refine sq_call (a' := ⟨List.toArray ((nv 6 a.l) :: (nv 6 b.l) :: (.pointer (some ⟨w.heap.size, 0, none⟩)) :: (.pointer (some ⟨w1.heap.size, 0, none⟩)) :: (.bool false) :: (.func (.func 21) #[] #[]) :: (.pointer (some ⟨w3.heap.size, 0, none⟩)) :: (nv 6 a.l) :: (.int .i64 0) :: (.bool true) :: (.func (.func 21) #[] #[]) :: (nv 6 a.l) :: (nv 6 f.l) :: undef :: undef :: undef :: undef :: undef :: undef :: undef :: undef :: undef :: undef :: undef :: undef :: undef :: undef :: undef :: undef :: undef :: undef :: undef :: undef :: undef :: undef :: undef :: undef :: undef :: undef :: undef :: undef :: undef :: undef :: undef :: undef :: undef :: undef :: undef :: undef :: undef :: undef :: undef :: undef :: undef :: undef :: undef :: undef :: undef :: undef :: undef :: undef :: undef :: undef :: undef :: undef :: undef :: undef :: undef :: []), []⟩) (v := nv 6 f.l) rfl rfl (ex_call (vs := [nv 6 a.l]) rfl Try.call21 rfl) (fullFrob_q ha hf _) ?_
  intro w17 hb17
  have A18 := A14.keep hb17
  have A19 := A15.keep hb17
  have A20 := N13.keep hb17
  have HB21 := below_then HB16 hb17
  refine sq_store (a' := ⟨List.toArray ((nv 6 a.l) :: (nv 6 b.l) :: (.pointer (some ⟨w.heap.size, 0, none⟩)) :: (.pointer (some ⟨w1.heap.size, 0, none⟩)) :: (.bool false) :: (.func (.func 21) #[] #[]) :: (.pointer (some ⟨w3.heap.size, 0, none⟩)) :: (nv 6 a.l) :: (.int .i64 0) :: (.bool true) :: (.func (.func 21) #[] #[]) :: (nv 6 a.l) :: (nv 6 f.l) :: undef :: undef :: undef :: undef :: undef :: undef :: undef :: undef :: undef :: undef :: undef :: undef :: undef :: undef :: undef :: undef :: undef :: undef :: undef :: undef :: undef :: undef :: undef :: undef :: undef :: undef :: undef :: undef :: undef :: undef :: undef :: undef :: undef :: undef :: undef :: undef :: undef :: undef :: undef :: undef :: undef :: undef :: undef :: undef :: undef :: undef :: undef :: undef :: undef :: undef :: undef :: undef :: undef :: undef :: undef :: []), []⟩) (t := 30) (xs := rows 6 a.l) (ys := rows 6 f.l) rfl rfl A20 (len_rows rfl) (ex_storen (K := 6) (l := a.l) (m := f.l) flFp12 rfl rfl A20 rfl) ?_
  intro w22 N22 hst22 hoth22
  have A23 := hoth22 _ _ _ (Nat.ne_of_lt A4.lt) A18
  have A24 := hoth22 _ _ _ (Nat.ne_of_lt N3.lt) A19
  have HB25 := hst22 _ _ HB21 HB5.size
  refine wpList_nil ?_
  refine bk_n ?_
  refine then_n ?_
  refine wp_region_lit ?_
  refine sq_val (a' := ⟨List.toArray ((nv 6 a.l) :: (nv 6 b.l) :: (.pointer (some ⟨w.heap.size, 0, none⟩)) :: (.pointer (some ⟨w1.heap.size, 0, none⟩)) :: (.bool false) :: (.func (.func 21) #[] #[]) :: (.pointer (some ⟨w3.heap.size, 0, none⟩)) :: (nv 6 a.l) :: (.int .i64 0) :: (.bool true) :: (.func (.func 21) #[] #[]) :: (nv 6 a.l) :: (nv 6 f.l) :: (.int .i64 1) :: undef :: undef :: undef :: undef :: undef :: undef :: undef :: undef :: undef :: undef :: undef :: undef :: undef :: undef :: undef :: undef :: undef :: undef :: undef :: undef :: undef :: undef :: undef :: undef :: undef :: undef :: undef :: undef :: undef :: undef :: undef :: undef :: undef :: undef :: undef :: undef :: undef :: undef :: undef :: undef :: undef :: undef :: undef :: undef :: undef :: undef :: undef :: undef :: undef :: undef :: undef :: undef :: undef :: undef :: []), []⟩) (v := .int .i64 1) rfl rfl (ex_iadd rfl rfl 1 rfl) ?_
  refine sq_val (a' := ⟨List.toArray ((nv 6 a.l) :: (nv 6 b.l) :: (.pointer (some ⟨w.heap.size, 0, none⟩)) :: (.pointer (some ⟨w1.heap.size, 0, none⟩)) :: (.bool false) :: (.func (.func 21) #[] #[]) :: (.pointer (some ⟨w3.heap.size, 0, none⟩)) :: (nv 6 a.l) :: (.int .i64 1) :: (.bool true) :: (.func (.func 21) #[] #[]) :: (nv 6 a.l) :: (nv 6 f.l) :: (.int .i64 1) :: undef :: undef :: undef :: undef :: undef :: undef :: undef :: undef :: undef :: undef :: undef :: undef :: undef :: undef :: undef :: undef :: undef :: undef :: undef :: undef :: undef :: undef :: undef :: undef :: undef :: undef :: undef :: undef :: undef :: undef :: undef :: undef :: undef :: undef :: undef :: undef :: undef :: undef :: undef :: undef :: undef :: undef :: undef :: undef :: undef :: undef :: undef :: undef :: undef :: undef :: undef :: undef :: undef :: undef :: []), []⟩) (v := .int .i64 1) rfl rfl (ex_move _) ?_
  refine wpList_nil ?_
  refine th_r ?_
  rw [rounds_succ]
  refine seq_lit ?_
  refine sq_val (a' := ⟨List.toArray ((nv 6 a.l) :: (nv 6 b.l) :: (.pointer (some ⟨w.heap.size, 0, none⟩)) :: (.pointer (some ⟨w1.heap.size, 0, none⟩)) :: (.bool false) :: (.func (.func 21) #[] #[]) :: (.pointer (some ⟨w3.heap.size, 0, none⟩)) :: (nv 6 a.l) :: (.int .i64 1) :: (.bool true) :: (.func (.func 21) #[] #[]) :: (nv 6 a.l) :: (nv 6 f.l) :: (.int .i64 1) :: undef :: undef :: undef :: undef :: undef :: undef :: undef :: undef :: undef :: undef :: undef :: undef :: undef :: undef :: undef :: undef :: undef :: undef :: undef :: undef :: undef :: undef :: undef :: undef :: undef :: undef :: undef :: undef :: undef :: undef :: undef :: undef :: undef :: undef :: undef :: undef :: undef :: undef :: undef :: undef :: undef :: undef :: undef :: undef :: undef :: undef :: undef :: undef :: undef :: undef :: undef :: undef :: undef :: undef :: []), []⟩) (v := .bool true) rfl rfl (ex_ilss rfl rfl true rfl) ?_
  refine seq_nil ?_
  refine wp_seq ?_
  refine wp_cond_true rfl ?_
  refine wp_skip ?_
  refine then_n ?_
  refine wp_seq ?_
  refine wp_block ?_
  refine wp_region_lit ?_
  refine sq_val (a' := ⟨List.toArray ((nv 6 a.l) :: (nv 6 b.l) :: (.pointer (some ⟨w.heap.size, 0, none⟩)) :: (.pointer (some ⟨w1.heap.size, 0, none⟩)) :: (.bool false) :: (.func (.func 21) #[] #[]) :: (.pointer (some ⟨w3.heap.size, 0, none⟩)) :: (nv 6 a.l) :: (.int .i64 1) :: (.bool true) :: (.func (.func 21) #[] #[]) :: (nv 6 a.l) :: (nv 6 f.l) :: (.int .i64 1) :: undef :: undef :: undef :: undef :: undef :: undef :: undef :: undef :: undef :: undef :: undef :: undef :: undef :: undef :: undef :: undef :: undef :: undef :: undef :: undef :: undef :: undef :: undef :: undef :: undef :: undef :: undef :: undef :: undef :: undef :: undef :: undef :: undef :: undef :: undef :: undef :: undef :: undef :: undef :: undef :: undef :: undef :: undef :: undef :: undef :: undef :: undef :: undef :: undef :: undef :: undef :: undef :: undef :: undef :: []), []⟩) (v := .func (.func 21) #[] #[]) rfl rfl (ex_move _) ?_
  refine sq_val (a' := ⟨List.toArray ((nv 6 a.l) :: (nv 6 b.l) :: (.pointer (some ⟨w.heap.size, 0, none⟩)) :: (.pointer (some ⟨w1.heap.size, 0, none⟩)) :: (.bool false) :: (.func (.func 21) #[] #[]) :: (.pointer (some ⟨w3.heap.size, 0, none⟩)) :: (nv 6 a.l) :: (.int .i64 1) :: (.bool true) :: (.func (.func 21) #[] #[]) :: (nv 6 f.l) :: (nv 6 f.l) :: (.int .i64 1) :: undef :: undef :: undef :: undef :: undef :: undef :: undef :: undef :: undef :: undef :: undef :: undef :: undef :: undef :: undef :: undef :: undef :: undef :: undef :: undef :: undef :: undef :: undef :: undef :: undef :: undef :: undef :: undef :: undef :: undef :: undef :: undef :: undef :: undef :: undef :: undef :: undef :: undef :: undef :: undef :: undef :: undef :: undef :: undef :: undef :: undef :: undef :: undef :: undef :: undef :: undef :: undef :: undef :: undef :: []), []⟩) (v := nv 6 f.l) rfl rfl (ex_loadn (K := 6) (k := 0) (j := 12) (l := f.l) flFp12 rfl N22 rfl _ rfl) ?_
  refine sq_call (a' := ⟨List.toArray ((nv 6 a.l) :: (nv 6 b.l) :: (.pointer (some ⟨w.heap.size, 0, none⟩)) :: (.pointer (some ⟨w1.heap.size, 0, none⟩)) :: (.bool false) :: (.func (.func 21) #[] #[]) :: (.pointer (some ⟨w3.heap.size, 0, none⟩)) :: (nv 6 a.l) :: (.int .i64 1) :: (.bool true) :: (.func (.func 21) #[] #[]) :: (nv 6 f.l) :: (nv 6 s2.l) :: (.int .i64 1) :: undef :: undef :: undef :: undef :: undef :: undef :: undef :: undef :: undef :: undef :: undef :: undef :: undef :: undef :: undef :: undef :: undef :: undef :: undef :: undef :: undef :: undef :: undef :: undef :: undef :: undef :: undef :: undef :: undef :: undef :: undef :: undef :: undef :: undef :: undef :: undef :: undef :: undef :: undef :: undef :: undef :: undef :: undef :: undef :: undef :: undef :: undef :: undef :: undef :: undef :: undef :: undef :: undef :: undef :: []), []⟩) (v := nv 6 s2.l) rfl rfl (ex_call (vs := [nv 6 f.l]) rfl Try.call21 rfl) (fullFrob_q hf.toB hs2 _) ?_
  intro w26 hb26
  have A27 := A23.keep hb26
  have A28 := A24.keep hb26
  have A29 := N22.keep hb26
  have HB30 := below_then HB25 hb26
  refine sq_store (a' := ⟨List.toArray ((nv 6 a.l) :: (nv 6 b.l) :: (.pointer (some ⟨w.heap.size, 0, none⟩)) :: (.pointer (some ⟨w1.heap.size, 0, none⟩)) :: (.bool false) :: (.func (.func 21) #[] #[]) :: (.pointer (some ⟨w3.heap.size, 0, none⟩)) :: (nv 6 a.l) :: (.int .i64 1) :: (.bool true) :: (.func (.func 21) #[] #[]) :: (nv 6 f.l) :: (nv 6 s2.l) :: (.int .i64 1) :: undef :: undef :: undef :: undef :: undef :: undef :: undef :: undef :: undef :: undef :: undef :: undef :: undef :: undef :: undef :: undef :: undef :: undef :: undef :: undef :: undef :: undef :: undef :: undef :: undef :: undef :: undef :: undef :: undef :: undef :: undef :: undef :: undef :: undef :: undef :: undef :: undef :: undef :: undef :: undef :: undef :: undef :: undef :: undef :: undef :: undef :: undef :: undef :: undef :: undef :: undef :: undef :: undef :: undef :: []), []⟩) (t := 30) (xs := rows 6 f.l) (ys := rows 6 s2.l) rfl rfl A29 (len_rows rfl) (ex_storen (K := 6) (l := f.l) (m := s2.l) flFp12 rfl rfl A29 rfl) ?_
  intro w31 N31 hst31 hoth31
  have A32 := hoth31 _ _ _ (Nat.ne_of_lt A4.lt) A27
  have A33 := hoth31 _ _ _ (Nat.ne_of_lt N3.lt) A28
  have HB34 := hst31 _ _ HB30 HB5.size
  refine wpList_nil ?_
  refine bk_n ?_
  refine then_n ?_
  refine wp_region_lit ?_
  refine sq_val (a' := ⟨List.toArray ((nv 6 a.l) :: (nv 6 b.l) :: (.pointer (some ⟨w.heap.size, 0, none⟩)) :: (.pointer (some ⟨w1.heap.size, 0, none⟩)) :: (.bool false) :: (.func (.func 21) #[] #[]) :: (.pointer (some ⟨w3.heap.size, 0, none⟩)) :: (nv 6 a.l) :: (.int .i64 1) :: (.bool true) :: (.func (.func 21) #[] #[]) :: (nv 6 f.l) :: (nv 6 s2.l) :: (.int .i64 2) :: undef :: undef :: undef :: undef :: undef :: undef :: undef :: undef :: undef :: undef :: undef :: undef :: undef :: undef :: undef :: undef :: undef :: undef :: undef :: undef :: undef :: undef :: undef :: undef :: undef :: undef :: undef :: undef :: undef :: undef :: undef :: undef :: undef :: undef :: undef :: undef :: undef :: undef :: undef :: undef :: undef :: undef :: undef :: undef :: undef :: undef :: undef :: undef :: undef :: undef :: undef :: undef :: undef :: undef :: []), []⟩) (v := .int .i64 2) rfl rfl (ex_iadd rfl rfl 2 rfl) ?_
  refine sq_val (a' := ⟨List.toArray ((nv 6 a.l) :: (nv 6 b.l) :: (.pointer (some ⟨w.heap.size, 0, none⟩)) :: (.pointer (some ⟨w1.heap.size, 0, none⟩)) :: (.bool false) :: (.func (.func 21) #[] #[]) :: (.pointer (some ⟨w3.heap.size, 0, none⟩)) :: (nv 6 a.l) :: (.int .i64 2) :: (.bool true) :: (.func (.func 21) #[] #[]) :: (nv 6 f.l) :: (nv 6 s2.l) :: (.int .i64 2) :: undef :: undef :: undef :: undef :: undef :: undef :: undef :: undef :: undef :: undef :: undef :: undef :: undef :: undef :: undef :: undef :: undef :: undef :: undef :: undef :: undef :: undef :: undef :: undef :: undef :: undef :: undef :: undef :: undef :: undef :: undef :: undef :: undef :: undef :: undef :: undef :: undef :: undef :: undef :: undef :: undef :: undef :: undef :: undef :: undef :: undef :: undef :: undef :: undef :: undef :: undef :: undef :: undef :: undef :: []), []⟩) (v := .int .i64 2) rfl rfl (ex_move _) ?_
  refine wpList_nil ?_
  refine th_r ?_
  rw [rounds_succ]
  refine seq_lit ?_
  refine sq_val (a' := ⟨List.toArray ((nv 6 a.l) :: (nv 6 b.l) :: (.pointer (some ⟨w.heap.size, 0, none⟩)) :: (.pointer (some ⟨w1.heap.size, 0, none⟩)) :: (.bool false) :: (.func (.func 21) #[] #[]) :: (.pointer (some ⟨w3.heap.size, 0, none⟩)) :: (nv 6 a.l) :: (.int .i64 2) :: (.bool true) :: (.func (.func 21) #[] #[]) :: (nv 6 f.l) :: (nv 6 s2.l) :: (.int .i64 2) :: undef :: undef :: undef :: undef :: undef :: undef :: undef :: undef :: undef :: undef :: undef :: undef :: undef :: undef :: undef :: undef :: undef :: undef :: undef :: undef :: undef :: undef :: undef :: undef :: undef :: undef :: undef :: undef :: undef :: undef :: undef :: undef :: undef :: undef :: undef :: undef :: undef :: undef :: undef :: undef :: undef :: undef :: undef :: undef :: undef :: undef :: undef :: undef :: undef :: undef :: undef :: undef :: undef :: undef :: []), []⟩) (v := .bool true) rfl rfl (ex_ilss rfl rfl true rfl) ?_
  refine seq_nil ?_
  refine wp_seq ?_
  refine wp_cond_true rfl ?_
  refine wp_skip ?_
  refine then_n ?_
  refine wp_seq ?_
  refine wp_block ?_
  refine wp_region_lit ?_
  refine sq_val (a' := ⟨List.toArray ((nv 6 a.l) :: (nv 6 b.l) :: (.pointer (some ⟨w.heap.size, 0, none⟩)) :: (.pointer (some ⟨w1.heap.size, 0, none⟩)) :: (.bool false) :: (.func (.func 21) #[] #[]) :: (.pointer (some ⟨w3.heap.size, 0, none⟩)) :: (nv 6 a.l) :: (.int .i64 2) :: (.bool true) :: (.func (.func 21) #[] #[]) :: (nv 6 f.l) :: (nv 6 s2.l) :: (.int .i64 2) :: undef :: undef :: undef :: undef :: undef :: undef :: undef :: undef :: undef :: undef :: undef :: undef :: undef :: undef :: undef :: undef :: undef :: undef :: undef :: undef :: undef :: undef :: undef :: undef :: undef :: undef :: undef :: undef :: undef :: undef :: undef :: undef :: undef :: undef :: undef :: undef :: undef :: undef :: undef :: undef :: undef :: undef :: undef :: undef :: undef :: undef :: undef :: undef :: undef :: undef :: undef :: undef :: undef :: undef :: []), []⟩) (v := .func (.func 21) #[] #[]) rfl rfl (ex_move _) ?_
  refine sq_val (a' := ⟨List.toArray ((nv 6 a.l) :: (nv 6 b.l) :: (.pointer (some ⟨w.heap.size, 0, none⟩)) :: (.pointer (some ⟨w1.heap.size, 0, none⟩)) :: (.bool false) :: (.func (.func 21) #[] #[]) :: (.pointer (some ⟨w3.heap.size, 0, none⟩)) :: (nv 6 a.l) :: (.int .i64 2) :: (.bool true) :: (.func (.func 21) #[] #[]) :: (nv 6 s2.l) :: (nv 6 s2.l) :: (.int .i64 2) :: undef :: undef :: undef :: undef :: undef :: undef :: undef :: undef :: undef :: undef :: undef :: undef :: undef :: undef :: undef :: undef :: undef :: undef :: undef :: undef :: undef :: undef :: undef :: undef :: undef :: undef :: undef :: undef :: undef :: undef :: undef :: undef :: undef :: undef :: undef :: undef :: undef :: undef :: undef :: undef :: undef :: undef :: undef :: undef :: undef :: undef :: undef :: undef :: undef :: undef :: undef :: undef :: undef :: undef :: []), []⟩) (v := nv 6 s2.l) rfl rfl (ex_loadn (K := 6) (k := 0) (j := 12) (l := s2.l) flFp12 rfl N31 rfl _ rfl) ?_
  refine sq_call (a' := ⟨List.toArray ((nv 6 a.l) :: (nv 6 b.l) :: (.pointer (some ⟨w.heap.size, 0, none⟩)) :: (.pointer (some ⟨w1.heap.size, 0, none⟩)) :: (.bool false) :: (.func (.func 21) #[] #[]) :: (.pointer (some ⟨w3.heap.size, 0, none⟩)) :: (nv 6 a.l) :: (.int .i64 2) :: (.bool true) :: (.func (.func 21) #[] #[]) :: (nv 6 s2.l) :: (nv 6 s3.l) :: (.int .i64 2) :: undef :: undef :: undef :: undef :: undef :: undef :: undef :: undef :: undef :: undef :: undef :: undef :: undef :: undef :: undef :: undef :: undef :: undef :: undef :: undef :: undef :: undef :: undef :: undef :: undef :: undef :: undef :: undef :: undef :: undef :: undef :: undef :: undef :: undef :: undef :: undef :: undef :: undef :: undef :: undef :: undef :: undef :: undef :: undef :: undef :: undef :: undef :: undef :: undef :: undef :: undef :: undef :: undef :: undef :: []), []⟩) (v := nv 6 s3.l) rfl rfl (ex_call (vs := [nv 6 s2.l]) rfl Try.call21 rfl) (fullFrob_q hs2.toB hs3 _) ?_
  intro w35 hb35
  have A36 := A32.keep hb35
  have A37 := A33.keep hb35
  have A38 := N31.keep hb35
  have HB39 := below_then HB34 hb35
  refine sq_store (a' := ⟨List.toArray ((nv 6 a.l) :: (nv 6 b.l) :: (.pointer (some ⟨w.heap.size, 0, none⟩)) :: (.pointer (some ⟨w1.heap.size, 0, none⟩)) :: (.bool false) :: (.func (.func 21) #[] #[]) :: (.pointer (some ⟨w3.heap.size, 0, none⟩)) :: (nv 6 a.l) :: (.int .i64 2) :: (.bool true) :: (.func (.func 21) #[] #[]) :: (nv 6 s2.l) :: (nv 6 s3.l) :: (.int .i64 2) :: undef :: undef :: undef :: undef :: undef :: undef :: undef :: undef :: undef :: undef :: undef :: undef :: undef :: undef :: undef :: undef :: undef :: undef :: undef :: undef :: undef :: undef :: undef :: undef :: undef :: undef :: undef :: undef :: undef :: undef :: undef :: undef :: undef :: undef :: undef :: undef :: undef :: undef :: undef :: undef :: undef :: undef :: undef :: undef :: undef :: undef :: undef :: undef :: undef :: undef :: undef :: undef :: undef :: undef :: []), []⟩) (t := 30) (xs := rows 6 s2.l) (ys := rows 6 s3.l) rfl rfl A38 (len_rows rfl) (ex_storen (K := 6) (l := s2.l) (m := s3.l) flFp12 rfl rfl A38 rfl) ?_
  intro w40 N40 hst40 hoth40
  have A41 := hoth40 _ _ _ (Nat.ne_of_lt A4.lt) A36
  have A42 := hoth40 _ _ _ (Nat.ne_of_lt N3.lt) A37
  have HB43 := hst40 _ _ HB39 HB5.size
  refine wpList_nil ?_
  refine bk_n ?_
  refine then_n ?_
  refine wp_region_lit ?_
  refine sq_val (a' := ⟨List.toArray ((nv 6 a.l) :: (nv 6 b.l) :: (.pointer (some ⟨w.heap.size, 0, none⟩)) :: (.pointer (some ⟨w1.heap.size, 0, none⟩)) :: (.bool false) :: (.func (.func 21) #[] #[]) :: (.pointer (some ⟨w3.heap.size, 0, none⟩)) :: (nv 6 a.l) :: (.int .i64 2) :: (.bool true) :: (.func (.func 21) #[] #[]) :: (nv 6 s2.l) :: (nv 6 s3.l) :: (.int .i64 3) :: undef :: undef :: undef :: undef :: undef :: undef :: undef :: undef :: undef :: undef :: undef :: undef :: undef :: undef :: undef :: undef :: undef :: undef :: undef :: undef :: undef :: undef :: undef :: undef :: undef :: undef :: undef :: undef :: undef :: undef :: undef :: undef :: undef :: undef :: undef :: undef :: undef :: undef :: undef :: undef :: undef :: undef :: undef :: undef :: undef :: undef :: undef :: undef :: undef :: undef :: undef :: undef :: undef :: undef :: []), []⟩) (v := .int .i64 3) rfl rfl (ex_iadd rfl rfl 3 rfl) ?_
  refine sq_val (a' := ⟨List.toArray ((nv 6 a.l) :: (nv 6 b.l) :: (.pointer (some ⟨w.heap.size, 0, none⟩)) :: (.pointer (some ⟨w1.heap.size, 0, none⟩)) :: (.bool false) :: (.func (.func 21) #[] #[]) :: (.pointer (some ⟨w3.heap.size, 0, none⟩)) :: (nv 6 a.l) :: (.int .i64 3) :: (.bool true) :: (.func (.func 21) #[] #[]) :: (nv 6 s2.l) :: (nv 6 s3.l) :: (.int .i64 3) :: undef :: undef :: undef :: undef :: undef :: undef :: undef :: undef :: undef :: undef :: undef :: undef :: undef :: undef :: undef :: undef :: undef :: undef :: undef :: undef :: undef :: undef :: undef :: undef :: undef :: undef :: undef :: undef :: undef :: undef :: undef :: undef :: undef :: undef :: undef :: undef :: undef :: undef :: undef :: undef :: undef :: undef :: undef :: undef :: undef :: undef :: undef :: undef :: undef :: undef :: undef :: undef :: undef :: undef :: []), []⟩) (v := .int .i64 3) rfl rfl (ex_move _) ?_
  refine wpList_nil ?_
  refine th_r ?_
  rw [rounds_succ]
  refine seq_lit ?_
  refine sq_val (a' := ⟨List.toArray ((nv 6 a.l) :: (nv 6 b.l) :: (.pointer (some ⟨w.heap.size, 0, none⟩)) :: (.pointer (some ⟨w1.heap.size, 0, none⟩)) :: (.bool false) :: (.func (.func 21) #[] #[]) :: (.pointer (some ⟨w3.heap.size, 0, none⟩)) :: (nv 6 a.l) :: (.int .i64 3) :: (.bool true) :: (.func (.func 21) #[] #[]) :: (nv 6 s2.l) :: (nv 6 s3.l) :: (.int .i64 3) :: undef :: undef :: undef :: undef :: undef :: undef :: undef :: undef :: undef :: undef :: undef :: undef :: undef :: undef :: undef :: undef :: undef :: undef :: undef :: undef :: undef :: undef :: undef :: undef :: undef :: undef :: undef :: undef :: undef :: undef :: undef :: undef :: undef :: undef :: undef :: undef :: undef :: undef :: undef :: undef :: undef :: undef :: undef :: undef :: undef :: undef :: undef :: undef :: undef :: undef :: undef :: undef :: undef :: undef :: []), []⟩) (v := .bool true) rfl rfl (ex_ilss rfl rfl true rfl) ?_
  refine seq_nil ?_
  refine wp_seq ?_
  refine wp_cond_true rfl ?_
  refine wp_skip ?_
  refine then_n ?_
  refine wp_seq ?_
  refine wp_block ?_
  refine wp_region_lit ?_
  refine sq_val (a' := ⟨List.toArray ((nv 6 a.l) :: (nv 6 b.l) :: (.pointer (some ⟨w.heap.size, 0, none⟩)) :: (.pointer (some ⟨w1.heap.size, 0, none⟩)) :: (.bool false) :: (.func (.func 21) #[] #[]) :: (.pointer (some ⟨w3.heap.size, 0, none⟩)) :: (nv 6 a.l) :: (.int .i64 3) :: (.bool true) :: (.func (.func 21) #[] #[]) :: (nv 6 s2.l) :: (nv 6 s3.l) :: (.int .i64 3) :: undef :: undef :: undef :: undef :: undef :: undef :: undef :: undef :: undef :: undef :: undef :: undef :: undef :: undef :: undef :: undef :: undef :: undef :: undef :: undef :: undef :: undef :: undef :: undef :: undef :: undef :: undef :: undef :: undef :: undef :: undef :: undef :: undef :: undef :: undef :: undef :: undef :: undef :: undef :: undef :: undef :: undef :: undef :: undef :: undef :: undef :: undef :: undef :: undef :: undef :: undef :: undef :: undef :: undef :: []), []⟩) (v := .func (.func 21) #[] #[]) rfl rfl (ex_move _) ?_
  refine sq_val (a' := ⟨List.toArray ((nv 6 a.l) :: (nv 6 b.l) :: (.pointer (some ⟨w.heap.size, 0, none⟩)) :: (.pointer (some ⟨w1.heap.size, 0, none⟩)) :: (.bool false) :: (.func (.func 21) #[] #[]) :: (.pointer (some ⟨w3.heap.size, 0, none⟩)) :: (nv 6 a.l) :: (.int .i64 3) :: (.bool true) :: (.func (.func 21) #[] #[]) :: (nv 6 s3.l) :: (nv 6 s3.l) :: (.int .i64 3) :: undef :: undef :: undef :: undef :: undef :: undef :: undef :: undef :: undef :: undef :: undef :: undef :: undef :: undef :: undef :: undef :: undef :: undef :: undef :: undef :: undef :: undef :: undef :: undef :: undef :: undef :: undef :: undef :: undef :: undef :: undef :: undef :: undef :: undef :: undef :: undef :: undef :: undef :: undef :: undef :: undef :: undef :: undef :: undef :: undef :: undef :: undef :: undef :: undef :: undef :: undef :: undef :: undef :: undef :: []), []⟩) (v := nv 6 s3.l) rfl rfl (ex_loadn (K := 6) (k := 0) (j := 12) (l := s3.l) flFp12 rfl N40 rfl _ rfl) ?_
  refine sq_call (a' := ⟨List.toArray ((nv 6 a.l) :: (nv 6 b.l) :: (.pointer (some ⟨w.heap.size, 0, none⟩)) :: (.pointer (some ⟨w1.heap.size, 0, none⟩)) :: (.bool false) :: (.func (.func 21) #[] #[]) :: (.pointer (some ⟨w3.heap.size, 0, none⟩)) :: (nv 6 a.l) :: (.int .i64 3) :: (.bool true) :: (.func (.func 21) #[] #[]) :: (nv 6 s3.l) :: (nv 6 s4.l) :: (.int .i64 3) :: undef :: undef :: undef :: undef :: undef :: undef :: undef :: undef :: undef :: undef :: undef :: undef :: undef :: undef :: undef :: undef :: undef :: undef :: undef :: undef :: undef :: undef :: undef :: undef :: undef :: undef :: undef :: undef :: undef :: undef :: undef :: undef :: undef :: undef :: undef :: undef :: undef :: undef :: undef :: undef :: undef :: undef :: undef :: undef :: undef :: undef :: undef :: undef :: undef :: undef :: undef :: undef :: undef :: undef :: []), []⟩) (v := nv 6 s4.l) rfl rfl (ex_call (vs := [nv 6 s3.l]) rfl Try.call21 rfl) (fullFrob_q hs3.toB hs4 _) ?_
  intro w44 hb44
  have A45 := A41.keep hb44
  have A46 := A42.keep hb44
  have A47 := N40.keep hb44
  have HB48 := below_then HB43 hb44
  refine sq_store (a' := ⟨List.toArray ((nv 6 a.l) :: (nv 6 b.l) :: (.pointer (some ⟨w.heap.size, 0, none⟩)) :: (.pointer (some ⟨w1.heap.size, 0, none⟩)) :: (.bool false) :: (.func (.func 21) #[] #[]) :: (.pointer (some ⟨w3.heap.size, 0, none⟩)) :: (nv 6 a.l) :: (.int .i64 3) :: (.bool true) :: (.func (.func 21) #[] #[]) :: (nv 6 s3.l) :: (nv 6 s4.l) :: (.int .i64 3) :: undef :: undef :: undef :: undef :: undef :: undef :: undef :: undef :: undef :: undef :: undef :: undef :: undef :: undef :: undef :: undef :: undef :: undef :: undef :: undef :: undef :: undef :: undef :: undef :: undef :: undef :: undef :: undef :: undef :: undef :: undef :: undef :: undef :: undef :: undef :: undef :: undef :: undef :: undef :: undef :: undef :: undef :: undef :: undef :: undef :: undef :: undef :: undef :: undef :: undef :: undef :: undef :: undef :: undef :: []), []⟩) (t := 30) (xs := rows 6 s3.l) (ys := rows 6 s4.l) rfl rfl A47 (len_rows rfl) (ex_storen (K := 6) (l := s3.l) (m := s4.l) flFp12 rfl rfl A47 rfl) ?_
  intro w49 N49 hst49 hoth49
  have A50 := hoth49 _ _ _ (Nat.ne_of_lt A4.lt) A45
  have A51 := hoth49 _ _ _ (Nat.ne_of_lt N3.lt) A46
  have HB52 := hst49 _ _ HB48 HB5.size
  refine wpList_nil ?_
  refine bk_n ?_
  refine then_n ?_
  refine wp_region_lit ?_
  refine sq_val (a' := ⟨List.toArray ((nv 6 a.l) :: (nv 6 b.l) :: (.pointer (some ⟨w.heap.size, 0, none⟩)) :: (.pointer (some ⟨w1.heap.size, 0, none⟩)) :: (.bool false) :: (.func (.func 21) #[] #[]) :: (.pointer (some ⟨w3.heap.size, 0, none⟩)) :: (nv 6 a.l) :: (.int .i64 3) :: (.bool true) :: (.func (.func 21) #[] #[]) :: (nv 6 s3.l) :: (nv 6 s4.l) :: (.int .i64 4) :: undef :: undef :: undef :: undef :: undef :: undef :: undef :: undef :: undef :: undef :: undef :: undef :: undef :: undef :: undef :: undef :: undef :: undef :: undef :: undef :: undef :: undef :: undef :: undef :: undef :: undef :: undef :: undef :: undef :: undef :: undef :: undef :: undef :: undef :: undef :: undef :: undef :: undef :: undef :: undef :: undef :: undef :: undef :: undef :: undef :: undef :: undef :: undef :: undef :: undef :: undef :: undef :: undef :: undef :: []), []⟩) (v := .int .i64 4) rfl rfl (ex_iadd rfl rfl 4 rfl) ?_
  refine sq_val (a' := ⟨List.toArray ((nv 6 a.l) :: (nv 6 b.l) :: (.pointer (some ⟨w.heap.size, 0, none⟩)) :: (.pointer (some ⟨w1.heap.size, 0, none⟩)) :: (.bool false) :: (.func (.func 21) #[] #[]) :: (.pointer (some ⟨w3.heap.size, 0, none⟩)) :: (nv 6 a.l) :: (.int .i64 4) :: (.bool true) :: (.func (.func 21) #[] #[]) :: (nv 6 s3.l) :: (nv 6 s4.l) :: (.int .i64 4) :: undef :: undef :: undef :: undef :: undef :: undef :: undef :: undef :: undef :: undef :: undef :: undef :: undef :: undef :: undef :: undef :: undef :: undef :: undef :: undef :: undef :: undef :: undef :: undef :: undef :: undef :: undef :: undef :: undef :: undef :: undef :: undef :: undef :: undef :: undef :: undef :: undef :: undef :: undef :: undef :: undef :: undef :: undef :: undef :: undef :: undef :: undef :: undef :: undef :: undef :: undef :: undef :: undef :: undef :: []), []⟩) (v := .int .i64 4) rfl rfl (ex_move _) ?_
  refine wpList_nil ?_
  refine th_r ?_
  rw [rounds_succ]
  refine seq_lit ?_
  refine sq_val (a' := ⟨List.toArray ((nv 6 a.l) :: (nv 6 b.l) :: (.pointer (some ⟨w.heap.size, 0, none⟩)) :: (.pointer (some ⟨w1.heap.size, 0, none⟩)) :: (.bool false) :: (.func (.func 21) #[] #[]) :: (.pointer (some ⟨w3.heap.size, 0, none⟩)) :: (nv 6 a.l) :: (.int .i64 4) :: (.bool true) :: (.func (.func 21) #[] #[]) :: (nv 6 s3.l) :: (nv 6 s4.l) :: (.int .i64 4) :: undef :: undef :: undef :: undef :: undef :: undef :: undef :: undef :: undef :: undef :: undef :: undef :: undef :: undef :: undef :: undef :: undef :: undef :: undef :: undef :: undef :: undef :: undef :: undef :: undef :: undef :: undef :: undef :: undef :: undef :: undef :: undef :: undef :: undef :: undef :: undef :: undef :: undef :: undef :: undef :: undef :: undef :: undef :: undef :: undef :: undef :: undef :: undef :: undef :: undef :: undef :: undef :: undef :: undef :: []), []⟩) (v := .bool true) rfl rfl (ex_ilss rfl rfl true rfl) ?_
  refine seq_nil ?_
  refine wp_seq ?_
  refine wp_cond_true rfl ?_
  refine wp_skip ?_
  refine then_n ?_
  refine wp_seq ?_
  refine wp_block ?_
  refine wp_region_lit ?_
  refine sq_val (a' := ⟨List.toArray ((nv 6 a.l) :: (nv 6 b.l) :: (.pointer (some ⟨w.heap.size, 0, none⟩)) :: (.pointer (some ⟨w1.heap.size, 0, none⟩)) :: (.bool false) :: (.func (.func 21) #[] #[]) :: (.pointer (some ⟨w3.heap.size, 0, none⟩)) :: (nv 6 a.l) :: (.int .i64 4) :: (.bool true) :: (.func (.func 21) #[] #[]) :: (nv 6 s3.l) :: (nv 6 s4.l) :: (.int .i64 4) :: undef :: undef :: undef :: undef :: undef :: undef :: undef :: undef :: undef :: undef :: undef :: undef :: undef :: undef :: undef :: undef :: undef :: undef :: undef :: undef :: undef :: undef :: undef :: undef :: undef :: undef :: undef :: undef :: undef :: undef :: undef :: undef :: undef :: undef :: undef :: undef :: undef :: undef :: undef :: undef :: undef :: undef :: undef :: undef :: undef :: undef :: undef :: undef :: undef :: undef :: undef :: undef :: undef :: undef :: []), []⟩) (v := .func (.func 21) #[] #[]) rfl rfl (ex_move _) ?_
  refine sq_val (a' := ⟨List.toArray ((nv 6 a.l) :: (nv 6 b.l) :: (.pointer (some ⟨w.heap.size, 0, none⟩)) :: (.pointer (some ⟨w1.heap.size, 0, none⟩)) :: (.bool false) :: (.func (.func 21) #[] #[]) :: (.pointer (some ⟨w3.heap.size, 0, none⟩)) :: (nv 6 a.l) :: (.int .i64 4) :: (.bool true) :: (.func (.func 21) #[] #[]) :: (nv 6 s4.l) :: (nv 6 s4.l) :: (.int .i64 4) :: undef :: undef :: undef :: undef :: undef :: undef :: undef :: undef :: undef :: undef :: undef :: undef :: undef :: undef :: undef :: undef :: undef :: undef :: undef :: undef :: undef :: undef :: undef :: undef :: undef :: undef :: undef :: undef :: undef :: undef :: undef :: undef :: undef :: undef :: undef :: undef :: undef :: undef :: undef :: undef :: undef :: undef :: undef :: undef :: undef :: undef :: undef :: undef :: undef :: undef :: undef :: undef :: undef :: undef :: []), []⟩) (v := nv 6 s4.l) rfl rfl (ex_loadn (K := 6) (k := 0) (j := 12) (l := s4.l) flFp12 rfl N49 rfl _ rfl) ?_
  refine sq_call (a' := ⟨List.toArray ((nv 6 a.l) :: (nv 6 b.l) :: (.pointer (some ⟨w.heap.size, 0, none⟩)) :: (.pointer (some ⟨w1.heap.size, 0, none⟩)) :: (.bool false) :: (.func (.func 21) #[] #[]) :: (.pointer (some ⟨w3.heap.size, 0, none⟩)) :: (nv 6 a.l) :: (.int .i64 4) :: (.bool true) :: (.func (.func 21) #[] #[]) :: (nv 6 s4.l) :: (nv 6 s5.l) :: (.int .i64 4) :: undef :: undef :: undef :: undef :: undef :: undef :: undef :: undef :: undef :: undef :: undef :: undef :: undef :: undef :: undef :: undef :: undef :: undef :: undef :: undef :: undef :: undef :: undef :: undef :: undef :: undef :: undef :: undef :: undef :: undef :: undef :: undef :: undef :: undef :: undef :: undef :: undef :: undef :: undef :: undef :: undef :: undef :: undef :: undef :: undef :: undef :: undef :: undef :: undef :: undef :: undef :: undef :: undef :: undef :: []), []⟩) (v := nv 6 s5.l) rfl rfl (ex_call (vs := [nv 6 s4.l]) rfl Try.call21 rfl) (fullFrob_q hs4.toB hs5 _) ?_
  intro w53 hb53
  have A54 := A50.keep hb53
  have A55 := A51.keep hb53
  have A56 := N49.keep hb53
  have HB57 := below_then HB52 hb53
  refine sq_store (a' := ⟨List.toArray ((nv 6 a.l) :: (nv 6 b.l) :: (.pointer (some ⟨w.heap.size, 0, none⟩)) :: (.pointer (some ⟨w1.heap.size, 0, none⟩)) :: (.bool false) :: (.func (.func 21) #[] #[]) :: (.pointer (some ⟨w3.heap.size, 0, none⟩)) :: (nv 6 a.l) :: (.int .i64 4) :: (.bool true) :: (.func (.func 21) #[] #[]) :: (nv 6 s4.l) :: (nv 6 s5.l) :: (.int .i64 4) :: undef :: undef :: undef :: undef :: undef :: undef :: undef :: undef :: undef :: undef :: undef :: undef :: undef :: undef :: undef :: undef :: undef :: undef :: undef :: undef :: undef :: undef :: undef :: undef :: undef :: undef :: undef :: undef :: undef :: undef :: undef :: undef :: undef :: undef :: undef :: undef :: undef :: undef :: undef :: undef :: undef :: undef :: undef :: undef :: undef :: undef :: undef :: undef :: undef :: undef :: undef :: undef :: undef :: undef :: []), []⟩) (t := 30) (xs := rows 6 s4.l) (ys := rows 6 s5.l) rfl rfl A56 (len_rows rfl) (ex_storen (K := 6) (l := s4.l) (m := s5.l) flFp12 rfl rfl A56 rfl) ?_
  intro w58 N58 hst58 hoth58
  have A59 := hoth58 _ _ _ (Nat.ne_of_lt A4.lt) A54
  have A60 := hoth58 _ _ _ (Nat.ne_of_lt N3.lt) A55
  have HB61 := hst58 _ _ HB57 HB5.size
  refine wpList_nil ?_
  refine bk_n ?_
  refine then_n ?_
  refine wp_region_lit ?_
  refine sq_val (a' := ⟨List.toArray ((nv 6 a.l) :: (nv 6 b.l) :: (.pointer (some ⟨w.heap.size, 0, none⟩)) :: (.pointer (some ⟨w1.heap.size, 0, none⟩)) :: (.bool false) :: (.func (.func 21) #[] #[]) :: (.pointer (some ⟨w3.heap.size, 0, none⟩)) :: (nv 6 a.l) :: (.int .i64 4) :: (.bool true) :: (.func (.func 21) #[] #[]) :: (nv 6 s4.l) :: (nv 6 s5.l) :: (.int .i64 5) :: undef :: undef :: undef :: undef :: undef :: undef :: undef :: undef :: undef :: undef :: undef :: undef :: undef :: undef :: undef :: undef :: undef :: undef :: undef :: undef :: undef :: undef :: undef :: undef :: undef :: undef :: undef :: undef :: undef :: undef :: undef :: undef :: undef :: undef :: undef :: undef :: undef :: undef :: undef :: undef :: undef :: undef :: undef :: undef :: undef :: undef :: undef :: undef :: undef :: undef :: undef :: undef :: undef :: undef :: []), []⟩) (v := .int .i64 5) rfl rfl (ex_iadd rfl rfl 5 rfl) ?_
  refine sq_val (a' := ⟨List.toArray ((nv 6 a.l) :: (nv 6 b.l) :: (.pointer (some ⟨w.heap.size, 0, none⟩)) :: (.pointer (some ⟨w1.heap.size, 0, none⟩)) :: (.bool false) :: (.func (.func 21) #[] #[]) :: (.pointer (some ⟨w3.heap.size, 0, none⟩)) :: (nv 6 a.l) :: (.int .i64 5) :: (.bool true) :: (.func (.func 21) #[] #[]) :: (nv 6 s4.l) :: (nv 6 s5.l) :: (.int .i64 5) :: undef :: undef :: undef :: undef :: undef :: undef :: undef :: undef :: undef :: undef :: undef :: undef :: undef :: undef :: undef :: undef :: undef :: undef :: undef :: undef :: undef :: undef :: undef :: undef :: undef :: undef :: undef :: undef :: undef :: undef :: undef :: undef :: undef :: undef :: undef :: undef :: undef :: undef :: undef :: undef :: undef :: undef :: undef :: undef :: undef :: undef :: undef :: undef :: undef :: undef :: undef :: undef :: undef :: undef :: []), []⟩) (v := .int .i64 5) rfl rfl (ex_move _) ?_
  refine wpList_nil ?_
  refine th_r ?_
  rw [rounds_succ]
  refine seq_lit ?_
  refine sq_val (a' := ⟨List.toArray ((nv 6 a.l) :: (nv 6 b.l) :: (.pointer (some ⟨w.heap.size, 0, none⟩)) :: (.pointer (some ⟨w1.heap.size, 0, none⟩)) :: (.bool false) :: (.func (.func 21) #[] #[]) :: (.pointer (some ⟨w3.heap.size, 0, none⟩)) :: (nv 6 a.l) :: (.int .i64 5) :: (.bool true) :: (.func (.func 21) #[] #[]) :: (nv 6 s4.l) :: (nv 6 s5.l) :: (.int .i64 5) :: undef :: undef :: undef :: undef :: undef :: undef :: undef :: undef :: undef :: undef :: undef :: undef :: undef :: undef :: undef :: undef :: undef :: undef :: undef :: undef :: undef :: undef :: undef :: undef :: undef :: undef :: undef :: undef :: undef :: undef :: undef :: undef :: undef :: undef :: undef :: undef :: undef :: undef :: undef :: undef :: undef :: undef :: undef :: undef :: undef :: undef :: undef :: undef :: undef :: undef :: undef :: undef :: undef :: undef :: []), []⟩) (v := .bool true) rfl rfl (ex_ilss rfl rfl true rfl) ?_
  refine seq_nil ?_
  refine wp_seq ?_
  refine wp_cond_true rfl ?_
  refine wp_skip ?_
  refine then_n ?_
  refine wp_seq ?_
  refine wp_block ?_
  refine wp_region_lit ?_
  refine sq_val (a' := ⟨List.toArray ((nv 6 a.l) :: (nv 6 b.l) :: (.pointer (some ⟨w.heap.size, 0, none⟩)) :: (.pointer (some ⟨w1.heap.size, 0, none⟩)) :: (.bool false) :: (.func (.func 21) #[] #[]) :: (.pointer (some ⟨w3.heap.size, 0, none⟩)) :: (nv 6 a.l) :: (.int .i64 5) :: (.bool true) :: (.func (.func 21) #[] #[]) :: (nv 6 s4.l) :: (nv 6 s5.l) :: (.int .i64 5) :: undef :: undef :: undef :: undef :: undef :: undef :: undef :: undef :: undef :: undef :: undef :: undef :: undef :: undef :: undef :: undef :: undef :: undef :: undef :: undef :: undef :: undef :: undef :: undef :: undef :: undef :: undef :: undef :: undef :: undef :: undef :: undef :: undef :: undef :: undef :: undef :: undef :: undef :: undef :: undef :: undef :: undef :: undef :: undef :: undef :: undef :: undef :: undef :: undef :: undef :: undef :: undef :: undef :: undef :: []), []⟩) (v := .func (.func 21) #[] #[]) rfl rfl (ex_move _) ?_
  refine sq_val (a' := ⟨List.toArray ((nv 6 a.l) :: (nv 6 b.l) :: (.pointer (some ⟨w.heap.size, 0, none⟩)) :: (.pointer (some ⟨w1.heap.size, 0, none⟩)) :: (.bool false) :: (.func (.func 21) #[] #[]) :: (.pointer (some ⟨w3.heap.size, 0, none⟩)) :: (nv 6 a.l) :: (.int .i64 5) :: (.bool true) :: (.func (.func 21) #[] #[]) :: (nv 6 s5.l) :: (nv 6 s5.l) :: (.int .i64 5) :: undef :: undef :: undef :: undef :: undef :: undef :: undef :: undef :: undef :: undef :: undef :: undef :: undef :: undef :: undef :: undef :: undef :: undef :: undef :: undef :: undef :: undef :: undef :: undef :: undef :: undef :: undef :: undef :: undef :: undef :: undef :: undef :: undef :: undef :: undef :: undef :: undef :: undef :: undef :: undef :: undef :: undef :: undef :: undef :: undef :: undef :: undef :: undef :: undef :: undef :: undef :: undef :: undef :: undef :: []), []⟩) (v := nv 6 s5.l) rfl rfl (ex_loadn (K := 6) (k := 0) (j := 12) (l := s5.l) flFp12 rfl N58 rfl _ rfl) ?_
  refine sq_call (a' := ⟨List.toArray ((nv 6 a.l) :: (nv 6 b.l) :: (.pointer (some ⟨w.heap.size, 0, none⟩)) :: (.pointer (some ⟨w1.heap.size, 0, none⟩)) :: (.bool false) :: (.func (.func 21) #[] #[]) :: (.pointer (some ⟨w3.heap.size, 0, none⟩)) :: (nv 6 a.l) :: (.int .i64 5) :: (.bool true) :: (.func (.func 21) #[] #[]) :: (nv 6 s5.l) :: (nv 6 s6.l) :: (.int .i64 5) :: undef :: undef :: undef :: undef :: undef :: undef :: undef :: undef :: undef :: undef :: undef :: undef :: undef :: undef :: undef :: undef :: undef :: undef :: undef :: undef :: undef :: undef :: undef :: undef :: undef :: undef :: undef :: undef :: undef :: undef :: undef :: undef :: undef :: undef :: undef :: undef :: undef :: undef :: undef :: undef :: undef :: undef :: undef :: undef :: undef :: undef :: undef :: undef :: undef :: undef :: undef :: undef :: undef :: undef :: []), []⟩) (v := nv 6 s6.l) rfl rfl (ex_call (vs := [nv 6 s5.l]) rfl Try.call21 rfl) (fullFrob_q hs5.toB hs6 _) ?_
  intro w62 hb62
  have A63 := A59.keep hb62
  have A64 := A60.keep hb62
  have A65 := N58.keep hb62
  have HB66 := below_then HB61 hb62
  refine sq_store (a' := ⟨List.toArray ((nv 6 a.l) :: (nv 6 b.l) :: (.pointer (some ⟨w.heap.size, 0, none⟩)) :: (.pointer (some ⟨w1.heap.size, 0, none⟩)) :: (.bool false) :: (.func (.func 21) #[] #[]) :: (.pointer (some ⟨w3.heap.size, 0, none⟩)) :: (nv 6 a.l) :: (.int .i64 5) :: (.bool true) :: (.func (.func 21) #[] #[]) :: (nv 6 s5.l) :: (nv 6 s6.l) :: (.int .i64 5) :: undef :: undef :: undef :: undef :: undef :: undef :: undef :: undef :: undef :: undef :: undef :: undef :: undef :: undef :: undef :: undef :: undef :: undef :: undef :: undef :: undef :: undef :: undef :: undef :: undef :: undef :: undef :: undef :: undef :: undef :: undef :: undef :: undef :: undef :: undef :: undef :: undef :: undef :: undef :: undef :: undef :: undef :: undef :: undef :: undef :: undef :: undef :: undef :: undef :: undef :: undef :: undef :: undef :: undef :: []), []⟩) (t := 30) (xs := rows 6 s5.l) (ys := rows 6 s6.l) rfl rfl A65 (len_rows rfl) (ex_storen (K := 6) (l := s5.l) (m := s6.l) flFp12 rfl rfl A65 rfl) ?_
  intro w67 N67 hst67 hoth67
  have A68 := hoth67 _ _ _ (Nat.ne_of_lt A4.lt) A63
  have A69 := hoth67 _ _ _ (Nat.ne_of_lt N3.lt) A64
  have HB70 := hst67 _ _ HB66 HB5.size
  refine wpList_nil ?_
  refine bk_n ?_
  refine then_n ?_
  refine wp_region_lit ?_
  refine sq_val (a' := ⟨List.toArray ((nv 6 a.l) :: (nv 6 b.l) :: (.pointer (some ⟨w.heap.size, 0, none⟩)) :: (.pointer (some ⟨w1.heap.size, 0, none⟩)) :: (.bool false) :: (.func (.func 21) #[] #[]) :: (.pointer (some ⟨w3.heap.size, 0, none⟩)) :: (nv 6 a.l) :: (.int .i64 5) :: (.bool true) :: (.func (.func 21) #[] #[]) :: (nv 6 s5.l) :: (nv 6 s6.l) :: (.int .i64 6) :: undef :: undef :: undef :: undef :: undef :: undef :: undef :: undef :: undef :: undef :: undef :: undef :: undef :: undef :: undef :: undef :: undef :: undef :: undef :: undef :: undef :: undef :: undef :: undef :: undef :: undef :: undef :: undef :: undef :: undef :: undef :: undef :: undef :: undef :: undef :: undef :: undef :: undef :: undef :: undef :: undef :: undef :: undef :: undef :: undef :: undef :: undef :: undef :: undef :: undef :: undef :: undef :: undef :: undef :: []), []⟩) (v := .int .i64 6) rfl rfl (ex_iadd rfl rfl 6 rfl) ?_
  refine sq_val (a' := ⟨List.toArray ((nv 6 a.l) :: (nv 6 b.l) :: (.pointer (some ⟨w.heap.size, 0, none⟩)) :: (.pointer (some ⟨w1.heap.size, 0, none⟩)) :: (.bool false) :: (.func (.func 21) #[] #[]) :: (.pointer (some ⟨w3.heap.size, 0, none⟩)) :: (nv 6 a.l) :: (.int .i64 6) :: (.bool true) :: (.func (.func 21) #[] #[]) :: (nv 6 s5.l) :: (nv 6 s6.l) :: (.int .i64 6) :: undef :: undef :: undef :: undef :: undef :: undef :: undef :: undef :: undef :: undef :: undef :: undef :: undef :: undef :: undef :: undef :: undef :: undef :: undef :: undef :: undef :: undef :: undef :: undef :: undef :: undef :: undef :: undef :: undef :: undef :: undef :: undef :: undef :: undef :: undef :: undef :: undef :: undef :: undef :: undef :: undef :: undef :: undef :: undef :: undef :: undef :: undef :: undef :: undef :: undef :: undef :: undef :: undef :: undef :: []), []⟩) (v := .int .i64 6) rfl rfl (ex_move _) ?_
  refine wpList_nil ?_
  refine th_r ?_
  rw [rounds_succ]
  refine seq_lit ?_
  refine sq_val (a' := ⟨List.toArray ((nv 6 a.l) :: (nv 6 b.l) :: (.pointer (some ⟨w.heap.size, 0, none⟩)) :: (.pointer (some ⟨w1.heap.size, 0, none⟩)) :: (.bool false) :: (.func (.func 21) #[] #[]) :: (.pointer (some ⟨w3.heap.size, 0, none⟩)) :: (nv 6 a.l) :: (.int .i64 6) :: (.bool false) :: (.func (.func 21) #[] #[]) :: (nv 6 s5.l) :: (nv 6 s6.l) :: (.int .i64 6) :: undef :: undef :: undef :: undef :: undef :: undef :: undef :: undef :: undef :: undef :: undef :: undef :: undef :: undef :: undef :: undef :: undef :: undef :: undef :: undef :: undef :: undef :: undef :: undef :: undef :: undef :: undef :: undef :: undef :: undef :: undef :: undef :: undef :: undef :: undef :: undef :: undef :: undef :: undef :: undef :: undef :: undef :: undef :: undef :: undef :: undef :: undef :: undef :: undef :: undef :: undef :: undef :: undef :: undef :: []), []⟩) (v := .bool false) rfl rfl (ex_ilss rfl rfl false rfl) ?_
  refine seq_nil ?_
  refine wp_seq ?_
  refine wp_cond_false rfl ?_
  refine wp_exit ((th_e (th_e (bk_e ?_))))
  refine then_n ?_
  refine wp_seq (wp_region_p (F := ⟨List.toArray ((nv 6 a.l) :: (nv 6 b.l) :: (.pointer (some ⟨w.heap.size, 0, none⟩)) :: (.pointer (some ⟨w1.heap.size, 0, none⟩)) :: (.bool true) :: (.func (.func 21) #[] #[]) :: (.pointer (some ⟨w3.heap.size, 0, none⟩)) :: (nv 6 a.l) :: (.int .i64 6) :: (.bool false) :: (.func (.func 21) #[] #[]) :: (nv 6 s5.l) :: (nv 6 s6.l) :: (.int .i64 6) :: (.bool true) :: (.bool true) :: (.func (.func 21) #[] #[]) :: (nv 6 a.l) :: (nv 6 f.l) :: (nv 6 a.l) :: (nv 6 [pN]) :: (nv 6 f.l) :: (.bool true) :: (.bool true) :: (.bool true) :: (.func (.func 21) #[] #[]) :: (nv 6 a.l) :: (nv 6 b.l) :: (nv 6 s.l) :: (nv 6 p.l) :: (.func (.func 21) #[] #[]) :: (nv 6 a.l) :: (nv 6 f.l) :: (.func (.func 21) #[] #[]) :: (nv 6 b.l) :: (nv 6 g.l) :: (nv 6 p.l) :: (.bool true) :: (.bool true) :: (.bool true) :: (.func (.func 21) #[] #[]) :: (nv 6 a.l) :: (nv 6 b.l) :: (nv 6 m.l) :: (nv 6 q.l) :: (.func (.func 21) #[] #[]) :: (nv 6 a.l) :: (nv 6 f.l) :: (.func (.func 21) #[] #[]) :: (nv 6 b.l) :: (nv 6 g.l) :: (nv 6 q.l) :: (.bool true) :: (.bool true) :: (.bool true) :: (nv 6 s6.l) :: (nv 6 a.l) :: (nv 6 s6.l) :: (.bool true) :: (.bool true) :: (.bool true) :: (nv 6 a.l) :: (nv 6 s6.l) :: (nv 6 z.l) :: (nv 6 a.l) :: (nv 6 z.l) :: (.bool true) :: (.bool true) :: []), []⟩) (S := Bel w67) [(14, .bool true), (15, .bool true), (16, .func (.func 21) #[] #[]), (17, nv 6 a.l), (18, nv 6 f.l), (19, nv 6 a.l), (20, nv 6 [pN]), (21, nv 6 f.l), (22, .bool true), (23, .bool true), (24, .bool true), (25, .func (.func 21) #[] #[]), (26, nv 6 a.l), (27, nv 6 b.l), (28, nv 6 s.l), (29, nv 6 p.l), (30, .func (.func 21) #[] #[]), (31, nv 6 a.l), (32, nv 6 f.l), (33, .func (.func 21) #[] #[]), (34, nv 6 b.l), (35, nv 6 g.l), (36, nv 6 p.l), (37, .bool true), (38, .bool true), (39, .bool true), (40, .func (.func 21) #[] #[]), (41, nv 6 a.l), (42, nv 6 b.l), (43, nv 6 m.l), (44, nv 6 q.l), (45, .func (.func 21) #[] #[]), (46, nv 6 a.l), (47, nv 6 f.l), (48, .func (.func 21) #[] #[]), (49, nv 6 b.l), (50, nv 6 g.l), (51, nv 6 q.l), (52, .bool true), (53, .bool true), (54, .bool true), (55, nv 6 s6.l), (56, nv 6 a.l), (57, nv 6 s6.l), (58, .bool true), (59, .bool true), (60, .bool true), (61, nv 6 a.l), (62, nv 6 s6.l), (63, nv 6 z.l), (64, nv 6 a.l), (65, nv 6 z.l), (66, .bool true), (67, .bool true), (4, .bool true)] (by kernel_rfl) (by kernel_rfl) (by kernel_rfl) (by kernel_rfl) rfl (by simp only [putAll, List.setIfInBounds_toArray, List.set_cons_zero, List.set_cons_succ]) (Bel.start _) ?_ ?_)
  · refine PlanSteps.cons (ps_call (v := .bool true) rfl rfl rfl (fun W' => ex_call (vs := []) rfl Try.call9 rfl) (fun W' h => fullalive_w _)) ?_
    refine PlanSteps.cons (ps_val (v := .bool true) rfl rfl rfl (fun W' h => ex_move _)) ?_
    refine PlanSteps.cons (ps_val (v := .func (.func 21) #[] #[]) rfl rfl rfl (fun W' h => ex_move _)) ?_
    refine PlanSteps.cons (ps_val (v := nv 6 a.l) rfl rfl rfl (fun W' h => ex_loadn (K := 6) (k := 0) (j := 12) (l := a.l) flFp12 rfl (A68.keep h.out) rfl _ rfl)) ?_
    refine PlanSteps.cons (ps_call (v := nv 6 f.l) rfl rfl rfl (fun W' => ex_call (vs := [nv 6 a.l]) rfl Try.call21 rfl) (fun W' h => fullFrob_q ha hf _)) ?_
    refine PlanSteps.cons (ps_val (v := nv 6 a.l) rfl rfl rfl (fun W' h => ex_loadn (K := 6) (k := 0) (j := 12) (l := a.l) flFp12 rfl (A68.keep h.out) rfl _ rfl)) ?_
    refine PlanSteps.cons (ps_call (v := nv 6 [pN]) rfl rfl rfl (fun W' => ex_call (vs := []) rfl Try.call22 rfl) (fun W' h => r4P_n _)) ?_
    refine PlanSteps.cons (ps_call (v := nv 6 f.l) rfl rfl rfl (fun W' => ex_call (vs := [nv 6 a.l, nv 6 [pN]]) rfl Try.call19 rfl) (fun W' h => HP _)) ?_
    refine PlanSteps.cons (ps_val (v := .bool true) rfl rfl rfl (fun W' h => ex_eqt (K := 6) (l := f.l) eqFp12 rfl rfl rfl rfl)) ?_
    refine PlanSteps.cons (ps_val (v := .bool true) rfl rfl rfl (fun W' h => ex_pick (r := true) rfl)) ?_
    refine PlanSteps.cons (ps_val (v := .bool true) rfl rfl rfl (fun W' h => ex_move _)) ?_
    refine PlanSteps.cons (ps_val (v := .func (.func 21) #[] #[]) rfl rfl rfl (fun W' h => ex_move _)) ?_
    refine PlanSteps.cons (ps_val (v := nv 6 a.l) rfl rfl rfl (fun W' h => ex_loadn (K := 6) (k := 0) (j := 12) (l := a.l) flFp12 rfl (A68.keep h.out) rfl _ rfl)) ?_
    refine PlanSteps.cons (ps_val (v := nv 6 b.l) rfl rfl rfl (fun W' h => ex_loadn (K := 6) (k := 0) (j := 12) (l := b.l) flFp12 rfl (A69.keep h.out) rfl _ rfl)) ?_
    refine PlanSteps.cons (ps_call (v := nv 6 s.l) rfl rfl rfl (fun W' => ex_call (vs := [nv 6 a.l, nv 6 b.l]) rfl Try.call11 rfl) (fun W' h => fullAdd_q ha hb hs _)) ?_
    refine PlanSteps.cons (ps_call (v := nv 6 p.l) rfl rfl rfl (fun W' => ex_call (vs := [nv 6 s.l]) rfl Try.call21 rfl) (fun W' h => fullFrob_q hs.toB hp _)) ?_
    refine PlanSteps.cons (ps_val (v := .func (.func 21) #[] #[]) rfl rfl rfl (fun W' h => ex_move _)) ?_
    refine PlanSteps.cons (ps_val (v := nv 6 a.l) rfl rfl rfl (fun W' h => ex_loadn (K := 6) (k := 0) (j := 12) (l := a.l) flFp12 rfl (A68.keep h.out) rfl _ rfl)) ?_
    refine PlanSteps.cons (ps_call (v := nv 6 f.l) rfl rfl rfl (fun W' => ex_call (vs := [nv 6 a.l]) rfl Try.call21 rfl) (fun W' h => fullFrob_q ha hf _)) ?_
    refine PlanSteps.cons (ps_val (v := .func (.func 21) #[] #[]) rfl rfl rfl (fun W' h => ex_move _)) ?_
    refine PlanSteps.cons (ps_val (v := nv 6 b.l) rfl rfl rfl (fun W' h => ex_loadn (K := 6) (k := 0) (j := 12) (l := b.l) flFp12 rfl (A69.keep h.out) rfl _ rfl)) ?_
    refine PlanSteps.cons (ps_call (v := nv 6 g.l) rfl rfl rfl (fun W' => ex_call (vs := [nv 6 b.l]) rfl Try.call21 rfl) (fun W' h => fullFrob_q hb hg _)) ?_
    refine PlanSteps.cons (ps_call (v := nv 6 p.l) rfl rfl rfl (fun W' => ex_call (vs := [nv 6 f.l, nv 6 g.l]) rfl Try.call11 rfl) (fun W' h => fullAdd_q hf.toB hg.toB (hp.cong cA) _)) ?_
    refine PlanSteps.cons (ps_val (v := .bool true) rfl rfl rfl (fun W' h => ex_eqt (K := 6) (l := p.l) eqFp12 rfl rfl rfl rfl)) ?_
    refine PlanSteps.cons (ps_val (v := .bool true) rfl rfl rfl (fun W' h => ex_pick (r := true) rfl)) ?_
    refine PlanSteps.cons (ps_val (v := .bool true) rfl rfl rfl (fun W' h => ex_move _)) ?_
    refine PlanSteps.cons (ps_val (v := .func (.func 21) #[] #[]) rfl rfl rfl (fun W' h => ex_move _)) ?_
    refine PlanSteps.cons (ps_val (v := nv 6 a.l) rfl rfl rfl (fun W' h => ex_loadn (K := 6) (k := 0) (j := 12) (l := a.l) flFp12 rfl (A68.keep h.out) rfl _ rfl)) ?_
    refine PlanSteps.cons (ps_val (v := nv 6 b.l) rfl rfl rfl (fun W' h => ex_loadn (K := 6) (k := 0) (j := 12) (l := b.l) flFp12 rfl (A69.keep h.out) rfl _ rfl)) ?_
    refine PlanSteps.cons (ps_call (v := nv 6 m.l) rfl rfl rfl (fun W' => ex_call (vs := [nv 6 a.l, nv 6 b.l]) rfl Try.call15 rfl) (fun W' h => fullMul_q ha hb hm _)) ?_
    refine PlanSteps.cons (ps_call (v := nv 6 q.l) rfl rfl rfl (fun W' => ex_call (vs := [nv 6 m.l]) rfl Try.call21 rfl) (fun W' h => fullFrob_q hm.toB hq _)) ?_
    refine PlanSteps.cons (ps_val (v := .func (.func 21) #[] #[]) rfl rfl rfl (fun W' h => ex_move _)) ?_
    refine PlanSteps.cons (ps_val (v := nv 6 a.l) rfl rfl rfl (fun W' h => ex_loadn (K := 6) (k := 0) (j := 12) (l := a.l) flFp12 rfl (A68.keep h.out) rfl _ rfl)) ?_
    refine PlanSteps.cons (ps_call (v := nv 6 f.l) rfl rfl rfl (fun W' => ex_call (vs := [nv 6 a.l]) rfl Try.call21 rfl) (fun W' h => fullFrob_q ha hf _)) ?_
    refine PlanSteps.cons (ps_val (v := .func (.func 21) #[] #[]) rfl rfl rfl (fun W' h => ex_move _)) ?_
    refine PlanSteps.cons (ps_val (v := nv 6 b.l) rfl rfl rfl (fun W' h => ex_loadn (K := 6) (k := 0) (j := 12) (l := b.l) flFp12 rfl (A69.keep h.out) rfl _ rfl)) ?_
    refine PlanSteps.cons (ps_call (v := nv 6 g.l) rfl rfl rfl (fun W' => ex_call (vs := [nv 6 b.l]) rfl Try.call21 rfl) (fun W' h => fullFrob_q hb hg _)) ?_
    refine PlanSteps.cons (ps_call (v := nv 6 q.l) rfl rfl rfl (fun W' => ex_call (vs := [nv 6 f.l, nv 6 g.l]) rfl Try.call15 rfl) (fun W' h => fullMul_q hf.toB hg.toB (hq.cong cM) _)) ?_
    refine PlanSteps.cons (ps_val (v := .bool true) rfl rfl rfl (fun W' h => ex_eqt (K := 6) (l := q.l) eqFp12 rfl rfl rfl rfl)) ?_
    refine PlanSteps.cons (ps_val (v := .bool true) rfl rfl rfl (fun W' h => ex_pick (r := true) rfl)) ?_
    refine PlanSteps.cons (ps_val (v := .bool true) rfl rfl rfl (fun W' h => ex_move _)) ?_
    refine PlanSteps.cons (ps_val (v := nv 6 s6.l) rfl rfl rfl (fun W' h => ex_loadn (K := 6) (k := 0) (j := 12) (l := s6.l) flFp12 rfl (N67.keep h.out) rfl _ rfl)) ?_
    refine PlanSteps.cons (ps_val (v := nv 6 a.l) rfl rfl rfl (fun W' h => ex_loadn (K := 6) (k := 0) (j := 12) (l := a.l) flFp12 rfl (A68.keep h.out) rfl _ rfl)) ?_
    refine PlanSteps.cons (ps_call (v := nv 6 s6.l) rfl rfl rfl (fun W' => ex_call (vs := [nv 6 a.l]) rfl Try.call13 rfl) (fun W' h => fullConj_q ha (hs6.cong (E12.frob_six X)) _)) ?_
    refine PlanSteps.cons (ps_val (v := .bool true) rfl rfl rfl (fun W' h => ex_eqt (K := 6) (l := s6.l) eqFp12 rfl rfl rfl rfl)) ?_
    refine PlanSteps.cons (ps_val (v := .bool true) rfl rfl rfl (fun W' h => ex_pick (r := true) rfl)) ?_
    refine PlanSteps.cons (ps_val (v := .bool true) rfl rfl rfl (fun W' h => ex_move _)) ?_
    refine PlanSteps.cons (ps_val (v := nv 6 a.l) rfl rfl rfl (fun W' h => ex_loadn (K := 6) (k := 0) (j := 12) (l := a.l) flFp12 rfl (A68.keep h.out) rfl _ rfl)) ?_
    refine PlanSteps.cons (ps_call (v := nv 6 s6.l) rfl rfl rfl (fun W' => ex_call (vs := [nv 6 a.l]) rfl Try.call13 rfl) (fun W' h => fullConj_q ha (hs6.cong (E12.frob_six X)) _)) ?_
    refine PlanSteps.cons (ps_call (v := nv 6 z.l) rfl rfl rfl (fun W' => ex_call (vs := [nv 6 s6.l]) rfl Try.call13 rfl) (fun W' h => fullConj_q (hs6.cong (E12.frob_six X)).toB (hz.of (E12.conj_conj X).symm) _)) ?_
    refine PlanSteps.cons (ps_val (v := nv 6 a.l) rfl rfl rfl (fun W' h => ex_loadn (K := 6) (k := 0) (j := 12) (l := a.l) flFp12 rfl (A68.keep h.out) rfl _ rfl)) ?_
    refine PlanSteps.cons (ps_call (v := nv 6 z.l) rfl rfl rfl (fun W' => ex_call (vs := [nv 6 a.l]) rfl Try.call10 rfl) (fun W' h => fullClean_q ha hz _)) ?_
    refine PlanSteps.cons (ps_val (v := .bool true) rfl rfl rfl (fun W' h => ex_eqt (K := 6) (l := z.l) eqFp12 rfl rfl rfl rfl)) ?_
    refine PlanSteps.cons (ps_val (v := .bool true) rfl rfl rfl (fun W' h => ex_pick (r := true) rfl)) ?_
    refine PlanSteps.cons (ps_val (v := .bool true) rfl rfl rfl (fun W' h => ex_assign _)) ?_
    exact PlanSteps.nil
  intro w71 hb71
  refine then_n ?_
  have A72 := A68.keep hb71.out
  have A73 := A69.keep hb71.out
  have A74 := N67.keep hb71.out
  have HB75 := below_then HB70 hb71.out
  exact wp_ret (bodyPost_ret (ret_tmp Try.results6 rfl) rfl ⟨rfl, HB75⟩)

end Go.Proofs.Ytodabjelnllkgaa

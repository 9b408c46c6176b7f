/- What is proved here: what the functions of package one on three numbers answer; which points of package one may be; sums and negatives of points. -/
import Derived.Test.YticglgegfebnjaaOneZ
import Derived.Test.YticglgegfebnjaaLimb
namespace Go.Proofs.Yticglgegfebnjaa
open Go.RowKit Cv

set_option maxRecDepth 20000 in
set_option maxHeartbeats 4000000 in
theorem onetwofold_e' (x v : Zp) (hv : v = 2 * x) (w : World) :
    Calls Try.prog 79 #[nv 6 [x.val]] w (Is (nv 6 [v.val]) w) := by
  obtain ⟨z1, ez1⟩ : ∃ q_ : Zp, q_ = x + x := ⟨_, rfl⟩
  obtain rfl : z1 = v := by subst ez1; rw [hv]; first | done | (clear hv; grind)
  go_enter Try.func79, Try.ntmps79
  refine wp_seq (region_m (F := fun γ => ⟨#[nv 6 [x.val], .pointer (some ⟨γ 0, 0, none⟩), .pointer (some ⟨γ 1, 0, none⟩), undef, undef, undef], []⟩) 2 (fun j_ => match j_ with | 0 => 24 | _ => 24) (fun j_ => match j_ with | 0 => 0 | _ => 1) (fun j_ => match j_ with | 0 => 0 | _ => 1) (fun j_ => match j_ with | 0 => segs [.n 6 x.val] | _ => segs [.n 6 0]) (fun j_ => match j_ with | 0 => segs [.n 6 x.val] | _ => segs [.n 6 0]) [1, 2] (.inr ⟨rfl, by kernel_rfl⟩) (by kernel_rfl) rfl rfl rfl ?_ ?_)
  · refine GSteps.cons (gm_box 0 rfl (fun _ => rfl) (fun _ _ => rfl) (fun γ w h => ex_boxsn (K := 6) (l := [x.val]) rfl) rfl rfl rfl) ?_
    refine GSteps.cons (gm_box 1 rfl (fun _ => rfl) (fun _ _ => rfl) (fun γ w h => ex_allocsn (K := 6) (l := [0]) zFp) rfl rfl rfl) ?_
    exact GSteps.nil
  intro γ1 w1 hb1 hB1 hn1
  refine th_r ?_
  have A2 : SB 24 w1 (γ1 0) [.n 6 x.val] := (hB1 0 (by decide)).2
  have le2 := (hB1 0 (by decide)).1
  have A3 : SB 24 w1 (γ1 1) [.n 6 0] := (hB1 1 (by decide)).2
  have le3 := (hB1 1 (by decide)).1
  have HB4 := below_then (Below.refl w.heap.size w) hb1.out
  refine wp_seq (region_ms (F := fun _ => ⟨#[nv 6 [x.val], .pointer (some ⟨(γ1 0), 0, none⟩), .pointer (some ⟨(γ1 1), 0, none⟩), nv 6 [x.val], nv 6 [x.val], nv 6 [z1.val]], []⟩) 3 ((γ1 1)) 0 (segs [.n 6 z1.val]) 0 (fun _ => 0) (fun _ => 0) (fun _ => 0) (fun _ => []) (fun _ => []) [3, 4, 5] (.inr ⟨rfl, by kernel_rfl⟩) (by kernel_rfl) rfl rfl rfl ?_ ?_)
  · refine GSteps.cons (late_step (gm_val (v := nv 6 [x.val]) rfl (fun _ => rfl) (fun _ => rfl) (fun γ w h => ex_loadsn (K := 6) 0 1 (m := [x.val]) flFp rfl rfl (A2.keep h.out) rfl rfl) rfl) (by kernel_rfl) rfl) ?_
    refine GSteps.cons (late_step (gm_val (v := nv 6 [x.val]) rfl (fun _ => rfl) (fun _ => rfl) (fun γ w h => ex_loadsn (K := 6) 0 1 (m := [x.val]) flFp rfl rfl (A2.keep h.out) rfl rfl) rfl) (by kernel_rfl) rfl) ?_
    refine GSteps.cons (late_step (gm_call (v := nv 6 [z1.val]) rfl (fun _ => rfl) (fun _ => rfl) (fun γ w => ex_call (vs := [nv 6 [x.val], nv 6 [x.val]]) rfl Try.call60 rfl) (fun w h => fpAdd_e x x z1 rfl rfl ez1 _) rfl) (by kernel_rfl) rfl) ?_
    refine GSteps.cons (late_store rfl (fun _ => rfl) (fun γ w h => ex_stores 0 1 (l := [.n 6 0]) (m := [.n 6 z1.val]) flFp.2 rfl rfl rfl (nv_cells 6 [z1.val]) (A3.keep h.out) rfl rfl) rfl) ?_
    exact GSteps.nil
  intro _ w5 w5_ hb5 _ _ hs5
  refine th_r ?_
  have A6 := A2.keep hb5.out
  have A7 := A3.keep hb5.out
  have HB8 := below_then HB4 hb5.out
  have A9 := hs5.other (hn1 0 1 (by decide) (by decide) (by decide)) A6
  have A10 := hs5.here 0 1 (l' := [.n 6 z1.val]) A7 rfl rfl rfl
  have HB11 := hs5.below HB8 (Nat.le_trans (Nat.le_refl _) le3)
  exact wp_ret (bodyPost_ret (ret1 Try.results79 (res_nv (K := 6) (l := [z1.val]) rfl A10 flFp rfl)) rfl ⟨rfl, HB11⟩)

theorem onetwofold_e {l0 : List Nat} (x v : Zp) (hl0 : l0 = [x.val]) (hv : v = 2 * x) (w : World) :
    Calls Try.prog 79 #[nv 6 l0] w (Is (nv 6 [v.val]) w) := by
  subst hl0
  exact onetwofold_e' x v hv w

set_option maxRecDepth 20000 in
set_option maxHeartbeats 4000000 in
theorem onethreefold_e' (x v : Zp) (hv : v = 3 * x) (w : World) :
    Calls Try.prog 61 #[nv 6 [x.val]] w (Is (nv 6 [v.val]) w) := by
  obtain ⟨z1, ez1⟩ : ∃ q_ : Zp, q_ = 2 * x := ⟨_, rfl⟩
  obtain ⟨z2, ez2⟩ : ∃ q_ : Zp, q_ = z1 + x := ⟨_, rfl⟩
  obtain rfl : z2 = v := by subst ez2 ez1; rw [hv]; first | done | (clear hv; grind)
  go_enter Try.func61, Try.ntmps61
  refine wp_seq (region_m (F := fun γ => ⟨#[nv 6 [x.val], .pointer (some ⟨γ 0, 0, none⟩), .pointer (some ⟨γ 1, 0, none⟩), undef, undef, undef, undef], []⟩) 2 (fun j_ => match j_ with | 0 => 24 | _ => 24) (fun j_ => match j_ with | 0 => 0 | _ => 1) (fun j_ => match j_ with | 0 => 0 | _ => 1) (fun j_ => match j_ with | 0 => segs [.n 6 x.val] | _ => segs [.n 6 0]) (fun j_ => match j_ with | 0 => segs [.n 6 x.val] | _ => segs [.n 6 0]) [1, 2] (.inr ⟨rfl, by kernel_rfl⟩) (by kernel_rfl) rfl rfl rfl ?_ ?_)
  · refine GSteps.cons (gm_box 0 rfl (fun _ => rfl) (fun _ _ => rfl) (fun γ w h => ex_boxsn (K := 6) (l := [x.val]) rfl) rfl rfl rfl) ?_
    refine GSteps.cons (gm_box 1 rfl (fun _ => rfl) (fun _ _ => rfl) (fun γ w h => ex_allocsn (K := 6) (l := [0]) zFp) rfl rfl rfl) ?_
    exact GSteps.nil
  intro γ1 w1 hb1 hB1 hn1
  refine th_r ?_
  have A2 : SB 24 w1 (γ1 0) [.n 6 x.val] := (hB1 0 (by decide)).2
  have le2 := (hB1 0 (by decide)).1
  have A3 : SB 24 w1 (γ1 1) [.n 6 0] := (hB1 1 (by decide)).2
  have le3 := (hB1 1 (by decide)).1
  have HB4 := below_then (Below.refl w.heap.size w) hb1.out
  refine wp_seq (region_ms (F := fun _ => ⟨#[nv 6 [x.val], .pointer (some ⟨(γ1 0), 0, none⟩), .pointer (some ⟨(γ1 1), 0, none⟩), nv 6 [x.val], nv 6 [z1.val], nv 6 [x.val], nv 6 [z2.val]], []⟩) 4 ((γ1 1)) 0 (segs [.n 6 z2.val]) 0 (fun _ => 0) (fun _ => 0) (fun _ => 0) (fun _ => []) (fun _ => []) [3, 4, 5, 6] (.inl ⟨rfl, by kernel_rfl⟩) (by kernel_rfl) rfl rfl rfl ?_ ?_)
  · refine GSteps.cons (late_step (gm_val (v := nv 6 [x.val]) rfl (fun _ => rfl) (fun _ => rfl) (fun γ w h => ex_loadsn (K := 6) 0 1 (m := [x.val]) flFp rfl rfl (A2.keep h.out) rfl rfl) rfl) (by kernel_rfl) rfl) ?_
    refine GSteps.cons (late_step (gm_call (v := nv 6 [z1.val]) rfl (fun _ => rfl) (fun _ => rfl) (fun γ w => ex_call (vs := [nv 6 [x.val]]) rfl Try.call79 rfl) (fun w h => onetwofold_e x z1 rfl ez1 _) rfl) (by kernel_rfl) rfl) ?_
    refine GSteps.cons (late_step (gm_val (v := nv 6 [x.val]) rfl (fun _ => rfl) (fun _ => rfl) (fun γ w h => ex_loadsn (K := 6) 0 1 (m := [x.val]) flFp rfl rfl (A2.keep h.out) rfl rfl) rfl) (by kernel_rfl) rfl) ?_
    refine GSteps.cons (late_step (gm_call (v := nv 6 [z2.val]) rfl (fun _ => rfl) (fun _ => rfl) (fun γ w => ex_call (vs := [nv 6 [z1.val], nv 6 [x.val]]) rfl Try.call60 rfl) (fun w h => fpAdd_e z1 x z2 rfl rfl ez2 _) rfl) (by kernel_rfl) rfl) ?_
    refine GSteps.cons (late_store rfl (fun _ => rfl) (fun γ w h => ex_stores 0 1 (l := [.n 6 0]) (m := [.n 6 z2.val]) flFp.2 rfl rfl rfl (nv_cells 6 [z2.val]) (A3.keep h.out) rfl rfl) rfl) ?_
    exact GSteps.nil
  intro _ w5 w5_ hb5 _ _ hs5
  refine th_r ?_
  have A6 := A2.keep hb5.out
  have A7 := A3.keep hb5.out
  have HB8 := below_then HB4 hb5.out
  have A9 := hs5.other (hn1 0 1 (by decide) (by decide) (by decide)) A6
  have A10 := hs5.here 0 1 (l' := [.n 6 z2.val]) A7 rfl rfl rfl
  have HB11 := hs5.below HB8 (Nat.le_trans (Nat.le_refl _) le3)
  exact wp_ret (bodyPost_ret (ret1 Try.results61 (res_nv (K := 6) (l := [z2.val]) rfl A10 flFp rfl)) rfl ⟨rfl, HB11⟩)

theorem onethreefold_e {l0 : List Nat} (x v : Zp) (hl0 : l0 = [x.val]) (hv : v = 3 * x) (w : World) :
    Calls Try.prog 61 #[nv 6 l0] w (Is (nv 6 [v.val]) w) := by
  subst hl0
  exact onethreefold_e' x v hv w

set_option maxRecDepth 20000 in
set_option maxHeartbeats 4000000 in
theorem onecrossed_e' (x1 y1 x2 y2 v : Zp) (hv : v = x1 * y2 + y1 * x2) (w : World) :
    Calls Try.prog 62 #[nv 6 [x1.val], nv 6 [y1.val], nv 6 [x2.val], nv 6 [y2.val]] w (Is (nv 6 [v.val]) w) := by
  obtain ⟨z1, ez1⟩ : ∃ q_ : Zp, q_ = x1 * y2 := ⟨_, rfl⟩
  obtain ⟨z2, ez2⟩ : ∃ q_ : Zp, q_ = y1 * x2 := ⟨_, rfl⟩
  obtain ⟨z3, ez3⟩ : ∃ q_ : Zp, q_ = z1 + z2 := ⟨_, rfl⟩
  obtain rfl : z3 = v := by subst ez3 ez2 ez1; rw [hv]; first | done | (clear hv; grind)
  go_enter Try.func62, Try.ntmps62
  refine wp_seq (region_m (F := fun γ => ⟨#[nv 6 [x1.val], nv 6 [y1.val], nv 6 [x2.val], nv 6 [y2.val], .pointer (some ⟨γ 0, 0, none⟩), .pointer (some ⟨γ 1, 0, none⟩), .pointer (some ⟨γ 2, 0, none⟩), .pointer (some ⟨γ 3, 0, none⟩), .pointer (some ⟨γ 4, 0, none⟩), undef, undef, undef, undef, undef, undef, undef], []⟩) 5 (fun j_ => match j_ with | 0 => 24 | 1 => 24 | 2 => 24 | 3 => 24 | _ => 24) (fun j_ => match j_ with | 0 => 0 | 1 => 1 | 2 => 2 | 3 => 3 | _ => 4) (fun j_ => match j_ with | 0 => 0 | 1 => 1 | 2 => 2 | 3 => 3 | _ => 4) (fun j_ => match j_ with | 0 => segs [.n 6 x1.val] | 1 => segs [.n 6 y1.val] | 2 => segs [.n 6 x2.val] | 3 => segs [.n 6 y2.val] | _ => segs [.n 6 0]) (fun j_ => match j_ with | 0 => segs [.n 6 x1.val] | 1 => segs [.n 6 y1.val] | 2 => segs [.n 6 x2.val] | 3 => segs [.n 6 y2.val] | _ => segs [.n 6 0]) [4, 5, 6, 7, 8] (.inr ⟨rfl, by kernel_rfl⟩) (by kernel_rfl) rfl rfl rfl ?_ ?_)
  · refine GSteps.cons (gm_box 0 rfl (fun _ => rfl) (fun _ _ => rfl) (fun γ w h => ex_boxsn (K := 6) (l := [x1.val]) rfl) rfl rfl rfl) ?_
    refine GSteps.cons (gm_box 1 rfl (fun _ => rfl) (fun _ _ => rfl) (fun γ w h => ex_boxsn (K := 6) (l := [y1.val]) rfl) rfl rfl rfl) ?_
    refine GSteps.cons (gm_box 2 rfl (fun _ => rfl) (fun _ _ => rfl) (fun γ w h => ex_boxsn (K := 6) (l := [x2.val]) rfl) rfl rfl rfl) ?_
    refine GSteps.cons (gm_box 3 rfl (fun _ => rfl) (fun _ _ => rfl) (fun γ w h => ex_boxsn (K := 6) (l := [y2.val]) rfl) rfl rfl rfl) ?_
    refine GSteps.cons (gm_box 4 rfl (fun _ => rfl) (fun _ _ => rfl) (fun γ w h => ex_allocsn (K := 6) (l := [0]) zFp) rfl rfl rfl) ?_
    exact GSteps.nil
  intro γ1 w1 hb1 hB1 hn1
  refine th_r ?_
  have A2 : SB 24 w1 (γ1 0) [.n 6 x1.val] := (hB1 0 (by decide)).2
  have le2 := (hB1 0 (by decide)).1
  have A3 : SB 24 w1 (γ1 1) [.n 6 y1.val] := (hB1 1 (by decide)).2
  have le3 := (hB1 1 (by decide)).1
  have A4 : SB 24 w1 (γ1 2) [.n 6 x2.val] := (hB1 2 (by decide)).2
  have le4 := (hB1 2 (by decide)).1
  have A5 : SB 24 w1 (γ1 3) [.n 6 y2.val] := (hB1 3 (by decide)).2
  have le5 := (hB1 3 (by decide)).1
  have A6 : SB 24 w1 (γ1 4) [.n 6 0] := (hB1 4 (by decide)).2
  have le6 := (hB1 4 (by decide)).1
  have HB7 := below_then (Below.refl w.heap.size w) hb1.out
  refine wp_seq (region_ms (F := fun _ => ⟨#[nv 6 [x1.val], nv 6 [y1.val], nv 6 [x2.val], nv 6 [y2.val], .pointer (some ⟨(γ1 0), 0, none⟩), .pointer (some ⟨(γ1 1), 0, none⟩), .pointer (some ⟨(γ1 2), 0, none⟩), .pointer (some ⟨(γ1 3), 0, none⟩), .pointer (some ⟨(γ1 4), 0, none⟩), nv 6 [x1.val], nv 6 [y2.val], nv 6 [z1.val], nv 6 [y1.val], nv 6 [x2.val], nv 6 [z2.val], nv 6 [z3.val]], []⟩) 7 ((γ1 4)) 0 (segs [.n 6 z3.val]) 0 (fun _ => 0) (fun _ => 0) (fun _ => 0) (fun _ => []) (fun _ => []) [9, 10, 11, 12, 13, 14, 15] (.inl ⟨rfl, by kernel_rfl⟩) (by kernel_rfl) rfl rfl rfl ?_ ?_)
  · refine GSteps.cons (late_step (gm_val (v := nv 6 [x1.val]) rfl (fun _ => rfl) (fun _ => rfl) (fun γ w h => ex_loadsn (K := 6) 0 1 (m := [x1.val]) flFp rfl rfl (A2.keep h.out) rfl rfl) rfl) (by kernel_rfl) rfl) ?_
    refine GSteps.cons (late_step (gm_val (v := nv 6 [y2.val]) rfl (fun _ => rfl) (fun _ => rfl) (fun γ w h => ex_loadsn (K := 6) 0 1 (m := [y2.val]) flFp rfl rfl (A5.keep h.out) rfl rfl) rfl) (by kernel_rfl) rfl) ?_
    refine GSteps.cons (late_step (gm_call (v := nv 6 [z1.val]) rfl (fun _ => rfl) (fun _ => rfl) (fun γ w => ex_call (vs := [nv 6 [x1.val], nv 6 [y2.val]]) rfl Try.call59 rfl) (fun w h => fpMul_e x1 y2 z1 rfl rfl ez1 _) rfl) (by kernel_rfl) rfl) ?_
    refine GSteps.cons (late_step (gm_val (v := nv 6 [y1.val]) rfl (fun _ => rfl) (fun _ => rfl) (fun γ w h => ex_loadsn (K := 6) 0 1 (m := [y1.val]) flFp rfl rfl (A3.keep h.out) rfl rfl) rfl) (by kernel_rfl) rfl) ?_
    refine GSteps.cons (late_step (gm_val (v := nv 6 [x2.val]) rfl (fun _ => rfl) (fun _ => rfl) (fun γ w h => ex_loadsn (K := 6) 0 1 (m := [x2.val]) flFp rfl rfl (A4.keep h.out) rfl rfl) rfl) (by kernel_rfl) rfl) ?_
    refine GSteps.cons (late_step (gm_call (v := nv 6 [z2.val]) rfl (fun _ => rfl) (fun _ => rfl) (fun γ w => ex_call (vs := [nv 6 [y1.val], nv 6 [x2.val]]) rfl Try.call59 rfl) (fun w h => fpMul_e y1 x2 z2 rfl rfl ez2 _) rfl) (by kernel_rfl) rfl) ?_
    refine GSteps.cons (late_step (gm_call (v := nv 6 [z3.val]) rfl (fun _ => rfl) (fun _ => rfl) (fun γ w => ex_call (vs := [nv 6 [z1.val], nv 6 [z2.val]]) rfl Try.call60 rfl) (fun w h => fpAdd_e z1 z2 z3 rfl rfl ez3 _) rfl) (by kernel_rfl) rfl) ?_
    refine GSteps.cons (late_store rfl (fun _ => rfl) (fun γ w h => ex_stores 0 1 (l := [.n 6 0]) (m := [.n 6 z3.val]) flFp.2 rfl rfl rfl (nv_cells 6 [z3.val]) (A6.keep h.out) rfl rfl) rfl) ?_
    exact GSteps.nil
  intro _ w8 w8_ hb8 _ _ hs8
  refine th_r ?_
  have A9 := A2.keep hb8.out
  have A10 := A3.keep hb8.out
  have A11 := A4.keep hb8.out
  have A12 := A5.keep hb8.out
  have A13 := A6.keep hb8.out
  have HB14 := below_then HB7 hb8.out
  have A15 := hs8.other (hn1 0 4 (by decide) (by decide) (by decide)) A9
  have A16 := hs8.other (hn1 1 4 (by decide) (by decide) (by decide)) A10
  have A17 := hs8.other (hn1 2 4 (by decide) (by decide) (by decide)) A11
  have A18 := hs8.other (hn1 3 4 (by decide) (by decide) (by decide)) A12
  have A19 := hs8.here 0 1 (l' := [.n 6 z3.val]) A13 rfl rfl rfl
  have HB20 := hs8.below HB14 (Nat.le_trans (Nat.le_refl _) le6)
  exact wp_ret (bodyPost_ret (ret1 Try.results62 (res_nv (K := 6) (l := [z3.val]) rfl A19 flFp rfl)) rfl ⟨rfl, HB20⟩)

theorem onecrossed_e {l0 : List Nat} {l1 : List Nat} {l2 : List Nat} {l3 : List Nat} (x1 y1 x2 y2 v : Zp) (hl0 : l0 = [x1.val]) (hl1 : l1 = [y1.val]) (hl2 : l2 = [x2.val]) (hl3 : l3 = [y2.val]) (hv : v = x1 * y2 + y1 * x2) (w : World) :
    Calls Try.prog 62 #[nv 6 l0, nv 6 l1, nv 6 l2, nv 6 l3] w (Is (nv 6 [v.val]) w) := by
  subst hl0 hl1 hl2 hl3
  exact onecrossed_e' x1 y1 x2 y2 v hv w

set_option maxRecDepth 20000 in
set_option maxHeartbeats 4000000 in
theorem oneplus_q {s t u : Tri Zp} (hu : u = plusT (12 : Zp) s t) (w : World) :
    Calls Try.prog 35 #[sv [.n 6 s.x.val, .n 6 s.y.val, .n 6 s.z.val], sv [.n 6 t.x.val, .n 6 t.y.val, .n 6 t.z.val]] w (Is (sv [.n 6 u.x.val, .n 6 u.y.val, .n 6 u.z.val]) w) := by
  obtain ⟨z1, ez1⟩ : ∃ q_ : Zp, q_ = s.x * t.x := ⟨_, rfl⟩
  obtain ⟨z2, ez2⟩ : ∃ q_ : Zp, q_ = 3 * z1 := ⟨_, rfl⟩
  obtain ⟨z3, ez3⟩ : ∃ q_ : Zp, q_ = s.y * t.y := ⟨_, rfl⟩
  obtain ⟨z4, ez4⟩ : ∃ q_ : Zp, q_ = s.z * t.z := ⟨_, rfl⟩
  obtain ⟨z5, ez5⟩ : ∃ q_ : Zp, q_ = ((12 : Zp)) * z4 := ⟨_, rfl⟩
  obtain ⟨z6, ez6⟩ : ∃ q_ : Zp, q_ = s.x * t.z + s.z * t.x := ⟨_, rfl⟩
  obtain ⟨z7, ez7⟩ : ∃ q_ : Zp, q_ = ((12 : Zp)) * z6 := ⟨_, rfl⟩
  obtain ⟨z8, ez8⟩ : ∃ q_ : Zp, q_ = s.x * t.y + s.y * t.x := ⟨_, rfl⟩
  obtain ⟨z9, ez9⟩ : ∃ q_ : Zp, q_ = s.y * t.z + s.z * t.y := ⟨_, rfl⟩
  obtain ⟨z10, ez10⟩ : ∃ q_ : Zp, q_ = z3 - z5 := ⟨_, rfl⟩
  obtain ⟨z11, ez11⟩ : ∃ q_ : Zp, q_ = z3 + z5 := ⟨_, rfl⟩
  obtain ⟨z12, ez12⟩ : ∃ q_ : Zp, q_ = z8 * z10 := ⟨_, rfl⟩
  obtain ⟨z13, ez13⟩ : ∃ q_ : Zp, q_ = z9 * z7 := ⟨_, rfl⟩
  obtain ⟨z14, ez14⟩ : ∃ q_ : Zp, q_ = z12 - z13 := ⟨_, rfl⟩
  obtain ⟨z15, ez15⟩ : ∃ q_ : Zp, q_ = z11 * z10 := ⟨_, rfl⟩
  obtain ⟨z16, ez16⟩ : ∃ q_ : Zp, q_ = z2 * z7 := ⟨_, rfl⟩
  obtain ⟨z17, ez17⟩ : ∃ q_ : Zp, q_ = z15 + z16 := ⟨_, rfl⟩
  obtain ⟨z18, ez18⟩ : ∃ q_ : Zp, q_ = z9 * z11 := ⟨_, rfl⟩
  obtain ⟨z19, ez19⟩ : ∃ q_ : Zp, q_ = z2 * z8 := ⟨_, rfl⟩
  obtain ⟨z20, ez20⟩ : ∃ q_ : Zp, q_ = z18 + z19 := ⟨_, rfl⟩
  have E : plusT (12 : Zp) s t = ⟨z14, z17, z20⟩ := by subst ez20 ez19 ez18 ez17 ez16 ez15 ez14 ez13 ez12 ez11 ez10 ez9 ez8 ez7 ez6 ez5 ez4 ez3 ez2 ez1; rfl
  rw [hu, E]
  go_enter Try.func35, Try.ntmps35
  refine wp_seq (region_m (F := fun γ => ⟨List.toArray ((sv [.n 6 s.x.val, .n 6 s.y.val, .n 6 s.z.val]) :: (sv [.n 6 t.x.val, .n 6 t.y.val, .n 6 t.z.val]) :: (.pointer (some ⟨γ 0, 0, none⟩)) :: (.pointer (some ⟨γ 1, 0, none⟩)) :: (.pointer (some ⟨γ 2, 0, none⟩)) :: undef :: undef :: undef :: undef :: undef :: undef :: undef :: undef :: undef :: undef :: undef :: undef :: undef :: undef :: undef :: undef :: undef :: undef :: undef :: undef :: undef :: undef :: undef :: undef :: undef :: undef :: undef :: undef :: undef :: undef :: undef :: undef :: undef :: undef :: undef :: undef :: undef :: undef :: undef :: undef :: undef :: undef :: undef :: undef :: undef :: undef :: undef :: undef :: undef :: undef :: undef :: undef :: undef :: undef :: undef :: undef :: undef :: undef :: undef :: undef :: undef :: undef :: undef :: undef :: undef :: undef :: undef :: undef :: undef :: undef :: undef :: undef :: undef :: undef :: undef :: undef :: undef :: undef :: undef :: undef :: undef :: undef :: undef :: []), []⟩) 3 (fun j_ => match j_ with | 0 => 58 | 1 => 58 | _ => 58) (fun j_ => match j_ with | 0 => 0 | 1 => 1 | _ => 2) (fun j_ => match j_ with | 0 => 0 | 1 => 1 | _ => 2) (fun j_ => match j_ with | 0 => segs [.n 6 s.x.val, .n 6 s.y.val, .n 6 s.z.val] | 1 => segs [.n 6 t.x.val, .n 6 t.y.val, .n 6 t.z.val] | _ => segs [.n 6 0, .n 6 0, .n 6 0]) (fun j_ => match j_ with | 0 => segs [.n 6 s.x.val, .n 6 s.y.val, .n 6 s.z.val] | 1 => segs [.n 6 t.x.val, .n 6 t.y.val, .n 6 t.z.val] | _ => segs [.n 6 0, .n 6 0, .n 6 0]) [2, 3, 4] (.inr ⟨rfl, by kernel_rfl⟩) (by kernel_rfl) rfl rfl rfl ?_ ?_)
  · refine GSteps.cons (gm_box 0 rfl (fun _ => rfl) (fun _ _ => rfl) (fun γ w h => ex_boxs (l := [.n 6 s.x.val, .n 6 s.y.val, .n 6 s.z.val]) rfl) rfl rfl rfl) ?_
    refine GSteps.cons (gm_box 1 rfl (fun _ => rfl) (fun _ _ => rfl) (fun γ w h => ex_boxs (l := [.n 6 t.x.val, .n 6 t.y.val, .n 6 t.z.val]) rfl) rfl rfl rfl) ?_
    refine GSteps.cons (gm_box 2 rfl (fun _ => rfl) (fun _ _ => rfl) (fun γ w h => ex_allocs (l := [.n 6 0, .n 6 0, .n 6 0]) zPG1) rfl rfl rfl) ?_
    exact GSteps.nil
  intro γ1 w1 hb1 hB1 hn1
  refine th_r ?_
  have A2 : SB 58 w1 (γ1 0) [.n 6 s.x.val, .n 6 s.y.val, .n 6 s.z.val] := (hB1 0 (by decide)).2
  have le2 := (hB1 0 (by decide)).1
  have A3 : SB 58 w1 (γ1 1) [.n 6 t.x.val, .n 6 t.y.val, .n 6 t.z.val] := (hB1 1 (by decide)).2
  have le3 := (hB1 1 (by decide)).1
  have A4 : SB 58 w1 (γ1 2) [.n 6 0, .n 6 0, .n 6 0] := (hB1 2 (by decide)).2
  have le4 := (hB1 2 (by decide)).1
  have HB5 := below_then (Below.refl w.heap.size w) hb1.out
  refine wp_seq (region_m (F := fun γ => ⟨List.toArray ((sv [.n 6 s.x.val, .n 6 s.y.val, .n 6 s.z.val]) :: (sv [.n 6 t.x.val, .n 6 t.y.val, .n 6 t.z.val]) :: (.pointer (some ⟨(γ1 0), 0, none⟩)) :: (.pointer (some ⟨(γ1 1), 0, none⟩)) :: (.pointer (some ⟨(γ1 2), 0, none⟩)) :: (.pointer (some ⟨γ 0, 0, none⟩)) :: (.pointer (some ⟨γ 1, 0, none⟩)) :: undef :: undef :: undef :: undef :: undef :: undef :: (.pointer (some ⟨(γ1 0), 0, none⟩)) :: (nv 6 [s.x.val]) :: (.pointer (some ⟨(γ1 1), 0, none⟩)) :: (nv 6 [t.x.val]) :: (nv 6 [z1.val]) :: (nv 6 [z2.val]) :: (.pointer (some ⟨(γ1 0), 6, none⟩)) :: (nv 6 [s.y.val]) :: (.pointer (some ⟨(γ1 1), 6, none⟩)) :: (nv 6 [t.y.val]) :: (nv 6 [z3.val]) :: undef :: undef :: undef :: undef :: undef :: undef :: undef :: undef :: undef :: undef :: undef :: undef :: undef :: undef :: undef :: undef :: undef :: undef :: undef :: undef :: undef :: undef :: undef :: undef :: undef :: undef :: undef :: undef :: undef :: undef :: undef :: undef :: undef :: undef :: undef :: undef :: undef :: undef :: undef :: undef :: undef :: undef :: undef :: undef :: undef :: undef :: undef :: undef :: undef :: undef :: undef :: undef :: undef :: undef :: undef :: undef :: undef :: undef :: undef :: undef :: undef :: undef :: undef :: undef :: []), []⟩) 2 (fun j_ => match j_ with | 0 => 24 | _ => 24) (fun j_ => match j_ with | 0 => 11 | _ => 12) (fun j_ => match j_ with | 0 => 13 | _ => 14) (fun j_ => match j_ with | 0 => segs [.n 6 0] | _ => segs [.n 6 0]) (fun j_ => match j_ with | 0 => segs [.n 6 z2.val] | _ => segs [.n 6 z3.val]) [13, 14, 15, 16, 17, 18, 19, 20, 21, 22, 23, 5, 6] (.inl ⟨rfl, by kernel_rfl⟩) (by kernel_rfl) rfl rfl rfl ?_ ?_)
  · refine GSteps.cons (gm_valg (fun γ => .pointer (some ⟨(γ1 0), 0, none⟩)) rfl (fun _ => rfl) (fun _ => rfl) (fun γ w h => ex_field faPG1_0 rfl) rfl) ?_
    refine GSteps.cons (gm_val (v := nv 6 [s.x.val]) rfl (fun _ => rfl) (fun _ => rfl) (fun γ w h => ex_loadsn (K := 6) 0 1 (m := [s.x.val]) flFp rfl rfl (A2.keep h.out) rfl rfl) rfl) ?_
    refine GSteps.cons (gm_valg (fun γ => .pointer (some ⟨(γ1 1), 0, none⟩)) rfl (fun _ => rfl) (fun _ => rfl) (fun γ w h => ex_field faPG1_0 rfl) rfl) ?_
    refine GSteps.cons (gm_val (v := nv 6 [t.x.val]) rfl (fun _ => rfl) (fun _ => rfl) (fun γ w h => ex_loadsn (K := 6) 0 1 (m := [t.x.val]) flFp rfl rfl (A3.keep h.out) rfl rfl) rfl) ?_
    refine GSteps.cons (gm_call (v := nv 6 [z1.val]) rfl (fun _ => rfl) (fun _ => rfl) (fun γ w => ex_call (vs := [nv 6 [s.x.val], nv 6 [t.x.val]]) rfl Try.call59 rfl) (fun w h => fpMul_e s.x t.x z1 rfl rfl ez1 _) rfl) ?_
    refine GSteps.cons (gm_call (v := nv 6 [z2.val]) rfl (fun _ => rfl) (fun _ => rfl) (fun γ w => ex_call (vs := [nv 6 [z1.val]]) rfl Try.call61 rfl) (fun w h => onethreefold_e z1 z2 rfl ez2 _) rfl) ?_
    refine GSteps.cons (gm_valg (fun γ => .pointer (some ⟨(γ1 0), 6, none⟩)) rfl (fun _ => rfl) (fun _ => rfl) (fun γ w h => ex_field faPG1_1 rfl) rfl) ?_
    refine GSteps.cons (gm_val (v := nv 6 [s.y.val]) rfl (fun _ => rfl) (fun _ => rfl) (fun γ w h => ex_loadsn (K := 6) 1 1 (m := [s.y.val]) flFp rfl rfl (A2.keep h.out) rfl rfl) rfl) ?_
    refine GSteps.cons (gm_valg (fun γ => .pointer (some ⟨(γ1 1), 6, none⟩)) rfl (fun _ => rfl) (fun _ => rfl) (fun γ w h => ex_field faPG1_1 rfl) rfl) ?_
    refine GSteps.cons (gm_val (v := nv 6 [t.y.val]) rfl (fun _ => rfl) (fun _ => rfl) (fun γ w h => ex_loadsn (K := 6) 1 1 (m := [t.y.val]) flFp rfl rfl (A3.keep h.out) rfl rfl) rfl) ?_
    refine GSteps.cons (gm_call (v := nv 6 [z3.val]) rfl (fun _ => rfl) (fun _ => rfl) (fun γ w => ex_call (vs := [nv 6 [s.y.val], nv 6 [t.y.val]]) rfl Try.call59 rfl) (fun w h => fpMul_e s.y t.y z3 rfl rfl ez3 _) rfl) ?_
    refine GSteps.cons (gm_new 0 rfl (fun _ => rfl) (fun _ _ => rfl) (fun γ w => ex_allocsn (K := 6) (l := [0]) zFp) rfl (by kernel_rfl)) ?_
    refine GSteps.cons (gm_new 1 rfl (fun _ => rfl) (fun _ _ => rfl) (fun γ w => ex_allocsn (K := 6) (l := [0]) zFp) rfl (by kernel_rfl)) ?_
    refine GSteps.cons (gm_store 0 rfl rfl (fun _ => rfl) (len_segs (l := [.n 6 z2.val]) (l' := [.n 6 0]) rfl) (fun γ w h => ex_stores 0 1 (l := [.n 6 0]) (m := [.n 6 z2.val]) flFp.2 rfl rfl rfl (nv_cells 6 [z2.val]) h rfl rfl) rfl rfl (by kernel_rfl)) ?_
    refine GSteps.cons (gm_store 1 rfl rfl (fun _ => rfl) (len_segs (l := [.n 6 z3.val]) (l' := [.n 6 0]) rfl) (fun γ w h => ex_stores 0 1 (l := [.n 6 0]) (m := [.n 6 z3.val]) flFp.2 rfl rfl rfl (nv_cells 6 [z3.val]) h rfl rfl) rfl rfl (by kernel_rfl)) ?_
    exact GSteps.nil
  intro γ6 w6 hb6 hB6 hn6
  refine th_r ?_
  have A7 := A2.keep hb6.out
  have A8 := A3.keep hb6.out
  have A9 := A4.keep hb6.out
  have A10 : SB 24 w6 (γ6 0) [.n 6 z2.val] := (hB6 0 (by decide)).2
  have le10 := (hB6 0 (by decide)).1
  have A11 : SB 24 w6 (γ6 1) [.n 6 z3.val] := (hB6 1 (by decide)).2
  have le11 := (hB6 1 (by decide)).1
  have HB12 := below_then HB5 hb6.out
  refine wp_seq (region_m (F := fun γ => ⟨List.toArray ((sv [.n 6 s.x.val, .n 6 s.y.val, .n 6 s.z.val]) :: (sv [.n 6 t.x.val, .n 6 t.y.val, .n 6 t.z.val]) :: (.pointer (some ⟨(γ1 0), 0, none⟩)) :: (.pointer (some ⟨(γ1 1), 0, none⟩)) :: (.pointer (some ⟨(γ1 2), 0, none⟩)) :: (.pointer (some ⟨(γ6 0), 0, none⟩)) :: (.pointer (some ⟨(γ6 1), 0, none⟩)) :: (.pointer (some ⟨γ 0, 0, none⟩)) :: undef :: undef :: undef :: undef :: undef :: (.pointer (some ⟨(γ1 0), 0, none⟩)) :: (nv 6 [s.x.val]) :: (.pointer (some ⟨(γ1 1), 0, none⟩)) :: (nv 6 [t.x.val]) :: (nv 6 [z1.val]) :: (nv 6 [z2.val]) :: (.pointer (some ⟨(γ1 0), 6, none⟩)) :: (nv 6 [s.y.val]) :: (.pointer (some ⟨(γ1 1), 6, none⟩)) :: (nv 6 [t.y.val]) :: (nv 6 [z3.val]) :: (nv 6 [12]) :: (.pointer (some ⟨(γ1 0), 12, none⟩)) :: (nv 6 [s.z.val]) :: (.pointer (some ⟨(γ1 1), 12, none⟩)) :: (nv 6 [t.z.val]) :: (nv 6 [z4.val]) :: (nv 6 [z5.val]) :: undef :: undef :: undef :: undef :: undef :: undef :: undef :: undef :: undef :: undef :: undef :: undef :: undef :: undef :: undef :: undef :: undef :: undef :: undef :: undef :: undef :: undef :: undef :: undef :: undef :: undef :: undef :: undef :: undef :: undef :: undef :: undef :: undef :: undef :: undef :: undef :: undef :: undef :: undef :: undef :: undef :: undef :: undef :: undef :: undef :: undef :: undef :: undef :: undef :: undef :: undef :: undef :: undef :: undef :: undef :: undef :: undef :: []), []⟩) 1 (fun _ => 24) (fun _ => 7) (fun _ => 8) (fun _ => segs [.n 6 0]) (fun _ => segs [.n 6 z5.val]) [24, 25, 26, 27, 28, 29, 30, 7] (.inr ⟨rfl, by kernel_rfl⟩) (by kernel_rfl) rfl rfl rfl ?_ ?_)
  · refine GSteps.cons (gm_val (v := nv 6 [12]) rfl (fun _ => rfl) (fun _ => rfl) (fun γ w h => ex_limb6 (e := 12) (by decide) rfl) rfl) ?_
    refine GSteps.cons (gm_valg (fun γ => .pointer (some ⟨(γ1 0), 12, none⟩)) rfl (fun _ => rfl) (fun _ => rfl) (fun γ w h => ex_field faPG1_2 rfl) rfl) ?_
    refine GSteps.cons (gm_val (v := nv 6 [s.z.val]) rfl (fun _ => rfl) (fun _ => rfl) (fun γ w h => ex_loadsn (K := 6) 2 1 (m := [s.z.val]) flFp rfl rfl (A7.keep h.out) rfl rfl) rfl) ?_
    refine GSteps.cons (gm_valg (fun γ => .pointer (some ⟨(γ1 1), 12, none⟩)) rfl (fun _ => rfl) (fun _ => rfl) (fun γ w h => ex_field faPG1_2 rfl) rfl) ?_
    refine GSteps.cons (gm_val (v := nv 6 [t.z.val]) rfl (fun _ => rfl) (fun _ => rfl) (fun γ w h => ex_loadsn (K := 6) 2 1 (m := [t.z.val]) flFp rfl rfl (A8.keep h.out) rfl rfl) rfl) ?_
    refine GSteps.cons (gm_call (v := nv 6 [z4.val]) rfl (fun _ => rfl) (fun _ => rfl) (fun γ w => ex_call (vs := [nv 6 [s.z.val], nv 6 [t.z.val]]) rfl Try.call59 rfl) (fun w h => fpMul_e s.z t.z z4 rfl rfl ez4 _) rfl) ?_
    refine GSteps.cons (gm_call (v := nv 6 [z5.val]) rfl (fun _ => rfl) (fun _ => rfl) (fun γ w => ex_call (vs := [nv 6 [12], nv 6 [z4.val]]) rfl Try.call59 rfl) (fun w h => fpMul_e ((12 : Zp)) z4 z5 (zc 12 (small_P (by decide))) rfl ez5 _) rfl) ?_
    refine GSteps.cons (gm_new 0 rfl (fun _ => rfl) (fun _ _ => rfl) (fun γ w => ex_allocsn (K := 6) (l := [0]) zFp) rfl (by kernel_rfl)) ?_
    refine GSteps.cons (gm_store 0 rfl rfl (fun _ => rfl) (len_segs (l := [.n 6 z5.val]) (l' := [.n 6 0]) rfl) (fun γ w h => ex_stores 0 1 (l := [.n 6 0]) (m := [.n 6 z5.val]) flFp.2 rfl rfl rfl (nv_cells 6 [z5.val]) h rfl rfl) rfl rfl (by kernel_rfl)) ?_
    exact GSteps.nil
  intro γ13 w13 hb13 hB13 _
  refine th_r ?_
  have A14 := A7.keep hb13.out
  have A15 := A8.keep hb13.out
  have A16 := A9.keep hb13.out
  have A17 := A10.keep hb13.out
  have A18 := A11.keep hb13.out
  have A19 : SB 24 w13 (γ13 0) [.n 6 z5.val] := (hB13 0 (by decide)).2
  have le19 := (hB13 0 (by decide)).1
  have HB20 := below_then HB12 hb13.out
  refine wp_seq (region_m (F := fun γ => ⟨List.toArray ((sv [.n 6 s.x.val, .n 6 s.y.val, .n 6 s.z.val]) :: (sv [.n 6 t.x.val, .n 6 t.y.val, .n 6 t.z.val]) :: (.pointer (some ⟨(γ1 0), 0, none⟩)) :: (.pointer (some ⟨(γ1 1), 0, none⟩)) :: (.pointer (some ⟨(γ1 2), 0, none⟩)) :: (.pointer (some ⟨(γ6 0), 0, none⟩)) :: (.pointer (some ⟨(γ6 1), 0, none⟩)) :: (.pointer (some ⟨(γ13 0), 0, none⟩)) :: (.pointer (some ⟨γ 0, 0, none⟩)) :: undef :: undef :: undef :: undef :: (.pointer (some ⟨(γ1 0), 0, none⟩)) :: (nv 6 [s.x.val]) :: (.pointer (some ⟨(γ1 1), 0, none⟩)) :: (nv 6 [t.x.val]) :: (nv 6 [z1.val]) :: (nv 6 [z2.val]) :: (.pointer (some ⟨(γ1 0), 6, none⟩)) :: (nv 6 [s.y.val]) :: (.pointer (some ⟨(γ1 1), 6, none⟩)) :: (nv 6 [t.y.val]) :: (nv 6 [z3.val]) :: (nv 6 [12]) :: (.pointer (some ⟨(γ1 0), 12, none⟩)) :: (nv 6 [s.z.val]) :: (.pointer (some ⟨(γ1 1), 12, none⟩)) :: (nv 6 [t.z.val]) :: (nv 6 [z4.val]) :: (nv 6 [z5.val]) :: (nv 6 [12]) :: (.pointer (some ⟨(γ1 0), 0, none⟩)) :: (nv 6 [s.x.val]) :: (.pointer (some ⟨(γ1 0), 12, none⟩)) :: (nv 6 [s.z.val]) :: (.pointer (some ⟨(γ1 1), 0, none⟩)) :: (nv 6 [t.x.val]) :: (.pointer (some ⟨(γ1 1), 12, none⟩)) :: (nv 6 [t.z.val]) :: (nv 6 [z6.val]) :: (nv 6 [z7.val]) :: undef :: undef :: undef :: undef :: undef :: undef :: undef :: undef :: undef :: undef :: undef :: undef :: undef :: undef :: undef :: undef :: undef :: undef :: undef :: undef :: undef :: undef :: undef :: undef :: undef :: undef :: undef :: undef :: undef :: undef :: undef :: undef :: undef :: undef :: undef :: undef :: undef :: undef :: undef :: undef :: undef :: undef :: undef :: undef :: undef :: undef :: []), []⟩) 1 (fun _ => 24) (fun _ => 11) (fun _ => 12) (fun _ => segs [.n 6 0]) (fun _ => segs [.n 6 z7.val]) [31, 32, 33, 34, 35, 36, 37, 38, 39, 40, 41, 8] (.inr ⟨rfl, by kernel_rfl⟩) (by kernel_rfl) rfl rfl rfl ?_ ?_)
  · refine GSteps.cons (gm_val (v := nv 6 [12]) rfl (fun _ => rfl) (fun _ => rfl) (fun γ w h => ex_limb6 (e := 12) (by decide) rfl) rfl) ?_
    refine GSteps.cons (gm_valg (fun γ => .pointer (some ⟨(γ1 0), 0, none⟩)) rfl (fun _ => rfl) (fun _ => rfl) (fun γ w h => ex_field faPG1_0 rfl) rfl) ?_
    refine GSteps.cons (gm_val (v := nv 6 [s.x.val]) rfl (fun _ => rfl) (fun _ => rfl) (fun γ w h => ex_loadsn (K := 6) 0 1 (m := [s.x.val]) flFp rfl rfl (A14.keep h.out) rfl rfl) rfl) ?_
    refine GSteps.cons (gm_valg (fun γ => .pointer (some ⟨(γ1 0), 12, none⟩)) rfl (fun _ => rfl) (fun _ => rfl) (fun γ w h => ex_field faPG1_2 rfl) rfl) ?_
    refine GSteps.cons (gm_val (v := nv 6 [s.z.val]) rfl (fun _ => rfl) (fun _ => rfl) (fun γ w h => ex_loadsn (K := 6) 2 1 (m := [s.z.val]) flFp rfl rfl (A14.keep h.out) rfl rfl) rfl) ?_
    refine GSteps.cons (gm_valg (fun γ => .pointer (some ⟨(γ1 1), 0, none⟩)) rfl (fun _ => rfl) (fun _ => rfl) (fun γ w h => ex_field faPG1_0 rfl) rfl) ?_
    refine GSteps.cons (gm_val (v := nv 6 [t.x.val]) rfl (fun _ => rfl) (fun _ => rfl) (fun γ w h => ex_loadsn (K := 6) 0 1 (m := [t.x.val]) flFp rfl rfl (A15.keep h.out) rfl rfl) rfl) ?_
    refine GSteps.cons (gm_valg (fun γ => .pointer (some ⟨(γ1 1), 12, none⟩)) rfl (fun _ => rfl) (fun _ => rfl) (fun γ w h => ex_field faPG1_2 rfl) rfl) ?_
    refine GSteps.cons (gm_val (v := nv 6 [t.z.val]) rfl (fun _ => rfl) (fun _ => rfl) (fun γ w h => ex_loadsn (K := 6) 2 1 (m := [t.z.val]) flFp rfl rfl (A15.keep h.out) rfl rfl) rfl) ?_
    refine GSteps.cons (gm_call (v := nv 6 [z6.val]) rfl (fun _ => rfl) (fun _ => rfl) (fun γ w => ex_call (vs := [nv 6 [s.x.val], nv 6 [s.z.val], nv 6 [t.x.val], nv 6 [t.z.val]]) rfl Try.call62 rfl) (fun w h => onecrossed_e s.x s.z t.x t.z z6 rfl rfl rfl rfl ez6 _) rfl) ?_
    refine GSteps.cons (gm_call (v := nv 6 [z7.val]) rfl (fun _ => rfl) (fun _ => rfl) (fun γ w => ex_call (vs := [nv 6 [12], nv 6 [z6.val]]) rfl Try.call59 rfl) (fun w h => fpMul_e ((12 : Zp)) z6 z7 (zc 12 (small_P (by decide))) rfl ez7 _) rfl) ?_
    refine GSteps.cons (gm_new 0 rfl (fun _ => rfl) (fun _ _ => rfl) (fun γ w => ex_allocsn (K := 6) (l := [0]) zFp) rfl (by kernel_rfl)) ?_
    refine GSteps.cons (gm_store 0 rfl rfl (fun _ => rfl) (len_segs (l := [.n 6 z7.val]) (l' := [.n 6 0]) rfl) (fun γ w h => ex_stores 0 1 (l := [.n 6 0]) (m := [.n 6 z7.val]) flFp.2 rfl rfl rfl (nv_cells 6 [z7.val]) h rfl rfl) rfl rfl (by kernel_rfl)) ?_
    exact GSteps.nil
  intro γ21 w21 hb21 hB21 _
  refine th_r ?_
  have A22 := A14.keep hb21.out
  have A23 := A15.keep hb21.out
  have A24 := A16.keep hb21.out
  have A25 := A17.keep hb21.out
  have A26 := A18.keep hb21.out
  have A27 := A19.keep hb21.out
  have A28 : SB 24 w21 (γ21 0) [.n 6 z7.val] := (hB21 0 (by decide)).2
  have le28 := (hB21 0 (by decide)).1
  have HB29 := below_then HB20 hb21.out
  refine wp_seq (region_m (F := fun γ => ⟨List.toArray ((sv [.n 6 s.x.val, .n 6 s.y.val, .n 6 s.z.val]) :: (sv [.n 6 t.x.val, .n 6 t.y.val, .n 6 t.z.val]) :: (.pointer (some ⟨(γ1 0), 0, none⟩)) :: (.pointer (some ⟨(γ1 1), 0, none⟩)) :: (.pointer (some ⟨(γ1 2), 0, none⟩)) :: (.pointer (some ⟨(γ6 0), 0, none⟩)) :: (.pointer (some ⟨(γ6 1), 0, none⟩)) :: (.pointer (some ⟨(γ13 0), 0, none⟩)) :: (.pointer (some ⟨(γ21 0), 0, none⟩)) :: (.pointer (some ⟨γ 0, 0, none⟩)) :: (.pointer (some ⟨γ 1, 0, none⟩)) :: undef :: undef :: (.pointer (some ⟨(γ1 0), 0, none⟩)) :: (nv 6 [s.x.val]) :: (.pointer (some ⟨(γ1 1), 0, none⟩)) :: (nv 6 [t.x.val]) :: (nv 6 [z1.val]) :: (nv 6 [z2.val]) :: (.pointer (some ⟨(γ1 0), 6, none⟩)) :: (nv 6 [s.y.val]) :: (.pointer (some ⟨(γ1 1), 6, none⟩)) :: (nv 6 [t.y.val]) :: (nv 6 [z3.val]) :: (nv 6 [12]) :: (.pointer (some ⟨(γ1 0), 12, none⟩)) :: (nv 6 [s.z.val]) :: (.pointer (some ⟨(γ1 1), 12, none⟩)) :: (nv 6 [t.z.val]) :: (nv 6 [z4.val]) :: (nv 6 [z5.val]) :: (nv 6 [12]) :: (.pointer (some ⟨(γ1 0), 0, none⟩)) :: (nv 6 [s.x.val]) :: (.pointer (some ⟨(γ1 0), 12, none⟩)) :: (nv 6 [s.z.val]) :: (.pointer (some ⟨(γ1 1), 0, none⟩)) :: (nv 6 [t.x.val]) :: (.pointer (some ⟨(γ1 1), 12, none⟩)) :: (nv 6 [t.z.val]) :: (nv 6 [z6.val]) :: (nv 6 [z7.val]) :: (.pointer (some ⟨(γ1 0), 0, none⟩)) :: (nv 6 [s.x.val]) :: (.pointer (some ⟨(γ1 0), 6, none⟩)) :: (nv 6 [s.y.val]) :: (.pointer (some ⟨(γ1 1), 0, none⟩)) :: (nv 6 [t.x.val]) :: (.pointer (some ⟨(γ1 1), 6, none⟩)) :: (nv 6 [t.y.val]) :: (nv 6 [z8.val]) :: (.pointer (some ⟨(γ1 0), 6, none⟩)) :: (nv 6 [s.y.val]) :: (.pointer (some ⟨(γ1 0), 12, none⟩)) :: (nv 6 [s.z.val]) :: (.pointer (some ⟨(γ1 1), 6, none⟩)) :: (nv 6 [t.y.val]) :: (.pointer (some ⟨(γ1 1), 12, none⟩)) :: (nv 6 [t.z.val]) :: (nv 6 [z9.val]) :: undef :: undef :: undef :: undef :: undef :: undef :: undef :: undef :: undef :: undef :: undef :: undef :: undef :: undef :: undef :: undef :: undef :: undef :: undef :: undef :: undef :: undef :: undef :: undef :: undef :: undef :: undef :: undef :: []), []⟩) 2 (fun j_ => match j_ with | 0 => 24 | _ => 24) (fun j_ => match j_ with | 0 => 18 | _ => 19) (fun j_ => match j_ with | 0 => 20 | _ => 21) (fun j_ => match j_ with | 0 => segs [.n 6 0] | _ => segs [.n 6 0]) (fun j_ => match j_ with | 0 => segs [.n 6 z8.val] | _ => segs [.n 6 z9.val]) [42, 43, 44, 45, 46, 47, 48, 49, 50, 51, 52, 53, 54, 55, 56, 57, 58, 59, 9, 10] (.inl ⟨rfl, by kernel_rfl⟩) (by kernel_rfl) rfl rfl rfl ?_ ?_)
  · refine GSteps.cons (gm_valg (fun γ => .pointer (some ⟨(γ1 0), 0, none⟩)) rfl (fun _ => rfl) (fun _ => rfl) (fun γ w h => ex_field faPG1_0 rfl) rfl) ?_
    refine GSteps.cons (gm_val (v := nv 6 [s.x.val]) rfl (fun _ => rfl) (fun _ => rfl) (fun γ w h => ex_loadsn (K := 6) 0 1 (m := [s.x.val]) flFp rfl rfl (A22.keep h.out) rfl rfl) rfl) ?_
    refine GSteps.cons (gm_valg (fun γ => .pointer (some ⟨(γ1 0), 6, none⟩)) rfl (fun _ => rfl) (fun _ => rfl) (fun γ w h => ex_field faPG1_1 rfl) rfl) ?_
    refine GSteps.cons (gm_val (v := nv 6 [s.y.val]) rfl (fun _ => rfl) (fun _ => rfl) (fun γ w h => ex_loadsn (K := 6) 1 1 (m := [s.y.val]) flFp rfl rfl (A22.keep h.out) rfl rfl) rfl) ?_
    refine GSteps.cons (gm_valg (fun γ => .pointer (some ⟨(γ1 1), 0, none⟩)) rfl (fun _ => rfl) (fun _ => rfl) (fun γ w h => ex_field faPG1_0 rfl) rfl) ?_
    refine GSteps.cons (gm_val (v := nv 6 [t.x.val]) rfl (fun _ => rfl) (fun _ => rfl) (fun γ w h => ex_loadsn (K := 6) 0 1 (m := [t.x.val]) flFp rfl rfl (A23.keep h.out) rfl rfl) rfl) ?_
    refine GSteps.cons (gm_valg (fun γ => .pointer (some ⟨(γ1 1), 6, none⟩)) rfl (fun _ => rfl) (fun _ => rfl) (fun γ w h => ex_field faPG1_1 rfl) rfl) ?_
    refine GSteps.cons (gm_val (v := nv 6 [t.y.val]) rfl (fun _ => rfl) (fun _ => rfl) (fun γ w h => ex_loadsn (K := 6) 1 1 (m := [t.y.val]) flFp rfl rfl (A23.keep h.out) rfl rfl) rfl) ?_
    refine GSteps.cons (gm_call (v := nv 6 [z8.val]) rfl (fun _ => rfl) (fun _ => rfl) (fun γ w => ex_call (vs := [nv 6 [s.x.val], nv 6 [s.y.val], nv 6 [t.x.val], nv 6 [t.y.val]]) rfl Try.call62 rfl) (fun w h => onecrossed_e s.x s.y t.x t.y z8 rfl rfl rfl rfl ez8 _) rfl) ?_
    refine GSteps.cons (gm_valg (fun γ => .pointer (some ⟨(γ1 0), 6, none⟩)) rfl (fun _ => rfl) (fun _ => rfl) (fun γ w h => ex_field faPG1_1 rfl) rfl) ?_
    refine GSteps.cons (gm_val (v := nv 6 [s.y.val]) rfl (fun _ => rfl) (fun _ => rfl) (fun γ w h => ex_loadsn (K := 6) 1 1 (m := [s.y.val]) flFp rfl rfl (A22.keep h.out) rfl rfl) rfl) ?_
    refine GSteps.cons (gm_valg (fun γ => .pointer (some ⟨(γ1 0), 12, none⟩)) rfl (fun _ => rfl) (fun _ => rfl) (fun γ w h => ex_field faPG1_2 rfl) rfl) ?_
    refine GSteps.cons (gm_val (v := nv 6 [s.z.val]) rfl (fun _ => rfl) (fun _ => rfl) (fun γ w h => ex_loadsn (K := 6) 2 1 (m := [s.z.val]) flFp rfl rfl (A22.keep h.out) rfl rfl) rfl) ?_
    refine GSteps.cons (gm_valg (fun γ => .pointer (some ⟨(γ1 1), 6, none⟩)) rfl (fun _ => rfl) (fun _ => rfl) (fun γ w h => ex_field faPG1_1 rfl) rfl) ?_
    refine GSteps.cons (gm_val (v := nv 6 [t.y.val]) rfl (fun _ => rfl) (fun _ => rfl) (fun γ w h => ex_loadsn (K := 6) 1 1 (m := [t.y.val]) flFp rfl rfl (A23.keep h.out) rfl rfl) rfl) ?_
    refine GSteps.cons (gm_valg (fun γ => .pointer (some ⟨(γ1 1), 12, none⟩)) rfl (fun _ => rfl) (fun _ => rfl) (fun γ w h => ex_field faPG1_2 rfl) rfl) ?_
    refine GSteps.cons (gm_val (v := nv 6 [t.z.val]) rfl (fun _ => rfl) (fun _ => rfl) (fun γ w h => ex_loadsn (K := 6) 2 1 (m := [t.z.val]) flFp rfl rfl (A23.keep h.out) rfl rfl) rfl) ?_
    refine GSteps.cons (gm_call (v := nv 6 [z9.val]) rfl (fun _ => rfl) (fun _ => rfl) (fun γ w => ex_call (vs := [nv 6 [s.y.val], nv 6 [s.z.val], nv 6 [t.y.val], nv 6 [t.z.val]]) rfl Try.call62 rfl) (fun w h => onecrossed_e s.y s.z t.y t.z z9 rfl rfl rfl rfl ez9 _) rfl) ?_
    refine GSteps.cons (gm_new 0 rfl (fun _ => rfl) (fun _ _ => rfl) (fun γ w => ex_allocsn (K := 6) (l := [0]) zFp) rfl (by kernel_rfl)) ?_
    refine GSteps.cons (gm_new 1 rfl (fun _ => rfl) (fun _ _ => rfl) (fun γ w => ex_allocsn (K := 6) (l := [0]) zFp) rfl (by kernel_rfl)) ?_
    refine GSteps.cons (gm_store 0 rfl rfl (fun _ => rfl) (len_segs (l := [.n 6 z8.val]) (l' := [.n 6 0]) rfl) (fun γ w h => ex_stores 0 1 (l := [.n 6 0]) (m := [.n 6 z8.val]) flFp.2 rfl rfl rfl (nv_cells 6 [z8.val]) h rfl rfl) rfl rfl (by kernel_rfl)) ?_
    refine GSteps.cons (gm_store 1 rfl rfl (fun _ => rfl) (len_segs (l := [.n 6 z9.val]) (l' := [.n 6 0]) rfl) (fun γ w h => ex_stores 0 1 (l := [.n 6 0]) (m := [.n 6 z9.val]) flFp.2 rfl rfl rfl (nv_cells 6 [z9.val]) h rfl rfl) rfl rfl (by kernel_rfl)) ?_
    exact GSteps.nil
  intro γ30 w30 hb30 hB30 hn30
  refine th_r ?_
  have A31 := A22.keep hb30.out
  have A32 := A23.keep hb30.out
  have A33 := A24.keep hb30.out
  have A34 := A25.keep hb30.out
  have A35 := A26.keep hb30.out
  have A36 := A27.keep hb30.out
  have A37 := A28.keep hb30.out
  have A38 : SB 24 w30 (γ30 0) [.n 6 z8.val] := (hB30 0 (by decide)).2
  have le38 := (hB30 0 (by decide)).1
  have A39 : SB 24 w30 (γ30 1) [.n 6 z9.val] := (hB30 1 (by decide)).2
  have le39 := (hB30 1 (by decide)).1
  have HB40 := below_then HB29 hb30.out
  refine wp_seq (region_m (F := fun γ => ⟨List.toArray ((sv [.n 6 s.x.val, .n 6 s.y.val, .n 6 s.z.val]) :: (sv [.n 6 t.x.val, .n 6 t.y.val, .n 6 t.z.val]) :: (.pointer (some ⟨(γ1 0), 0, none⟩)) :: (.pointer (some ⟨(γ1 1), 0, none⟩)) :: (.pointer (some ⟨(γ1 2), 0, none⟩)) :: (.pointer (some ⟨(γ6 0), 0, none⟩)) :: (.pointer (some ⟨(γ6 1), 0, none⟩)) :: (.pointer (some ⟨(γ13 0), 0, none⟩)) :: (.pointer (some ⟨(γ21 0), 0, none⟩)) :: (.pointer (some ⟨(γ30 0), 0, none⟩)) :: (.pointer (some ⟨(γ30 1), 0, none⟩)) :: (.pointer (some ⟨γ 0, 0, none⟩)) :: (.pointer (some ⟨γ 1, 0, none⟩)) :: (.pointer (some ⟨(γ1 0), 0, none⟩)) :: (nv 6 [s.x.val]) :: (.pointer (some ⟨(γ1 1), 0, none⟩)) :: (nv 6 [t.x.val]) :: (nv 6 [z1.val]) :: (nv 6 [z2.val]) :: (.pointer (some ⟨(γ1 0), 6, none⟩)) :: (nv 6 [s.y.val]) :: (.pointer (some ⟨(γ1 1), 6, none⟩)) :: (nv 6 [t.y.val]) :: (nv 6 [z3.val]) :: (nv 6 [12]) :: (.pointer (some ⟨(γ1 0), 12, none⟩)) :: (nv 6 [s.z.val]) :: (.pointer (some ⟨(γ1 1), 12, none⟩)) :: (nv 6 [t.z.val]) :: (nv 6 [z4.val]) :: (nv 6 [z5.val]) :: (nv 6 [12]) :: (.pointer (some ⟨(γ1 0), 0, none⟩)) :: (nv 6 [s.x.val]) :: (.pointer (some ⟨(γ1 0), 12, none⟩)) :: (nv 6 [s.z.val]) :: (.pointer (some ⟨(γ1 1), 0, none⟩)) :: (nv 6 [t.x.val]) :: (.pointer (some ⟨(γ1 1), 12, none⟩)) :: (nv 6 [t.z.val]) :: (nv 6 [z6.val]) :: (nv 6 [z7.val]) :: (.pointer (some ⟨(γ1 0), 0, none⟩)) :: (nv 6 [s.x.val]) :: (.pointer (some ⟨(γ1 0), 6, none⟩)) :: (nv 6 [s.y.val]) :: (.pointer (some ⟨(γ1 1), 0, none⟩)) :: (nv 6 [t.x.val]) :: (.pointer (some ⟨(γ1 1), 6, none⟩)) :: (nv 6 [t.y.val]) :: (nv 6 [z8.val]) :: (.pointer (some ⟨(γ1 0), 6, none⟩)) :: (nv 6 [s.y.val]) :: (.pointer (some ⟨(γ1 0), 12, none⟩)) :: (nv 6 [s.z.val]) :: (.pointer (some ⟨(γ1 1), 6, none⟩)) :: (nv 6 [t.y.val]) :: (.pointer (some ⟨(γ1 1), 12, none⟩)) :: (nv 6 [t.z.val]) :: (nv 6 [z9.val]) :: (nv 6 [z3.val]) :: (nv 6 [z5.val]) :: (nv 6 [z10.val]) :: (nv 6 [z3.val]) :: (nv 6 [z5.val]) :: (nv 6 [z11.val]) :: undef :: undef :: undef :: undef :: undef :: undef :: undef :: undef :: undef :: undef :: undef :: undef :: undef :: undef :: undef :: undef :: undef :: undef :: undef :: undef :: undef :: undef :: []), []⟩) 2 (fun j_ => match j_ with | 0 => 24 | _ => 24) (fun j_ => match j_ with | 0 => 6 | _ => 7) (fun j_ => match j_ with | 0 => 8 | _ => 9) (fun j_ => match j_ with | 0 => segs [.n 6 0] | _ => segs [.n 6 0]) (fun j_ => match j_ with | 0 => segs [.n 6 z10.val] | _ => segs [.n 6 z11.val]) [60, 61, 62, 63, 64, 65, 11, 12] (.inl ⟨rfl, by kernel_rfl⟩) (by kernel_rfl) rfl rfl rfl ?_ ?_)
  · refine GSteps.cons (gm_val (v := nv 6 [z3.val]) rfl (fun _ => rfl) (fun _ => rfl) (fun γ w h => ex_loadsn (K := 6) 0 1 (m := [z3.val]) flFp rfl rfl (A35.keep h.out) rfl rfl) rfl) ?_
    refine GSteps.cons (gm_val (v := nv 6 [z5.val]) rfl (fun _ => rfl) (fun _ => rfl) (fun γ w h => ex_loadsn (K := 6) 0 1 (m := [z5.val]) flFp rfl rfl (A36.keep h.out) rfl rfl) rfl) ?_
    refine GSteps.cons (gm_call (v := nv 6 [z10.val]) rfl (fun _ => rfl) (fun _ => rfl) (fun γ w => ex_call (vs := [nv 6 [z3.val], nv 6 [z5.val]]) rfl Try.call63 rfl) (fun w h => fpSub_e z3 z5 z10 rfl rfl ez10 _) rfl) ?_
    refine GSteps.cons (gm_val (v := nv 6 [z3.val]) rfl (fun _ => rfl) (fun _ => rfl) (fun γ w h => ex_loadsn (K := 6) 0 1 (m := [z3.val]) flFp rfl rfl (A35.keep h.out) rfl rfl) rfl) ?_
    refine GSteps.cons (gm_val (v := nv 6 [z5.val]) rfl (fun _ => rfl) (fun _ => rfl) (fun γ w h => ex_loadsn (K := 6) 0 1 (m := [z5.val]) flFp rfl rfl (A36.keep h.out) rfl rfl) rfl) ?_
    refine GSteps.cons (gm_call (v := nv 6 [z11.val]) rfl (fun _ => rfl) (fun _ => rfl) (fun γ w => ex_call (vs := [nv 6 [z3.val], nv 6 [z5.val]]) rfl Try.call60 rfl) (fun w h => fpAdd_e z3 z5 z11 rfl rfl ez11 _) rfl) ?_
    refine GSteps.cons (gm_new 0 rfl (fun _ => rfl) (fun _ _ => rfl) (fun γ w => ex_allocsn (K := 6) (l := [0]) zFp) rfl (by kernel_rfl)) ?_
    refine GSteps.cons (gm_new 1 rfl (fun _ => rfl) (fun _ _ => rfl) (fun γ w => ex_allocsn (K := 6) (l := [0]) zFp) rfl (by kernel_rfl)) ?_
    refine GSteps.cons (gm_store 0 rfl rfl (fun _ => rfl) (len_segs (l := [.n 6 z10.val]) (l' := [.n 6 0]) rfl) (fun γ w h => ex_stores 0 1 (l := [.n 6 0]) (m := [.n 6 z10.val]) flFp.2 rfl rfl rfl (nv_cells 6 [z10.val]) h rfl rfl) rfl rfl (by kernel_rfl)) ?_
    refine GSteps.cons (gm_store 1 rfl rfl (fun _ => rfl) (len_segs (l := [.n 6 z11.val]) (l' := [.n 6 0]) rfl) (fun γ w h => ex_stores 0 1 (l := [.n 6 0]) (m := [.n 6 z11.val]) flFp.2 rfl rfl rfl (nv_cells 6 [z11.val]) h rfl rfl) rfl rfl (by kernel_rfl)) ?_
    exact GSteps.nil
  intro γ41 w41 hb41 hB41 hn41
  refine th_r ?_
  have A42 := A31.keep hb41.out
  have A43 := A32.keep hb41.out
  have A44 := A33.keep hb41.out
  have A45 := A34.keep hb41.out
  have A46 := A35.keep hb41.out
  have A47 := A36.keep hb41.out
  have A48 := A37.keep hb41.out
  have A49 := A38.keep hb41.out
  have A50 := A39.keep hb41.out
  have A51 : SB 24 w41 (γ41 0) [.n 6 z10.val] := (hB41 0 (by decide)).2
  have le51 := (hB41 0 (by decide)).1
  have A52 : SB 24 w41 (γ41 1) [.n 6 z11.val] := (hB41 1 (by decide)).2
  have le52 := (hB41 1 (by decide)).1
  have HB53 := below_then HB40 hb41.out
  refine wp_seq (region_ms (F := fun _ => ⟨List.toArray ((sv [.n 6 s.x.val, .n 6 s.y.val, .n 6 s.z.val]) :: (sv [.n 6 t.x.val, .n 6 t.y.val, .n 6 t.z.val]) :: (.pointer (some ⟨(γ1 0), 0, none⟩)) :: (.pointer (some ⟨(γ1 1), 0, none⟩)) :: (.pointer (some ⟨(γ1 2), 0, none⟩)) :: (.pointer (some ⟨(γ6 0), 0, none⟩)) :: (.pointer (some ⟨(γ6 1), 0, none⟩)) :: (.pointer (some ⟨(γ13 0), 0, none⟩)) :: (.pointer (some ⟨(γ21 0), 0, none⟩)) :: (.pointer (some ⟨(γ30 0), 0, none⟩)) :: (.pointer (some ⟨(γ30 1), 0, none⟩)) :: (.pointer (some ⟨(γ41 0), 0, none⟩)) :: (.pointer (some ⟨(γ41 1), 0, none⟩)) :: (.pointer (some ⟨(γ1 0), 0, none⟩)) :: (nv 6 [s.x.val]) :: (.pointer (some ⟨(γ1 1), 0, none⟩)) :: (nv 6 [t.x.val]) :: (nv 6 [z1.val]) :: (nv 6 [z2.val]) :: (.pointer (some ⟨(γ1 0), 6, none⟩)) :: (nv 6 [s.y.val]) :: (.pointer (some ⟨(γ1 1), 6, none⟩)) :: (nv 6 [t.y.val]) :: (nv 6 [z3.val]) :: (nv 6 [12]) :: (.pointer (some ⟨(γ1 0), 12, none⟩)) :: (nv 6 [s.z.val]) :: (.pointer (some ⟨(γ1 1), 12, none⟩)) :: (nv 6 [t.z.val]) :: (nv 6 [z4.val]) :: (nv 6 [z5.val]) :: (nv 6 [12]) :: (.pointer (some ⟨(γ1 0), 0, none⟩)) :: (nv 6 [s.x.val]) :: (.pointer (some ⟨(γ1 0), 12, none⟩)) :: (nv 6 [s.z.val]) :: (.pointer (some ⟨(γ1 1), 0, none⟩)) :: (nv 6 [t.x.val]) :: (.pointer (some ⟨(γ1 1), 12, none⟩)) :: (nv 6 [t.z.val]) :: (nv 6 [z6.val]) :: (nv 6 [z7.val]) :: (.pointer (some ⟨(γ1 0), 0, none⟩)) :: (nv 6 [s.x.val]) :: (.pointer (some ⟨(γ1 0), 6, none⟩)) :: (nv 6 [s.y.val]) :: (.pointer (some ⟨(γ1 1), 0, none⟩)) :: (nv 6 [t.x.val]) :: (.pointer (some ⟨(γ1 1), 6, none⟩)) :: (nv 6 [t.y.val]) :: (nv 6 [z8.val]) :: (.pointer (some ⟨(γ1 0), 6, none⟩)) :: (nv 6 [s.y.val]) :: (.pointer (some ⟨(γ1 0), 12, none⟩)) :: (nv 6 [s.z.val]) :: (.pointer (some ⟨(γ1 1), 6, none⟩)) :: (nv 6 [t.y.val]) :: (.pointer (some ⟨(γ1 1), 12, none⟩)) :: (nv 6 [t.z.val]) :: (nv 6 [z9.val]) :: (nv 6 [z3.val]) :: (nv 6 [z5.val]) :: (nv 6 [z10.val]) :: (nv 6 [z3.val]) :: (nv 6 [z5.val]) :: (nv 6 [z11.val]) :: (nv 6 [z8.val]) :: (nv 6 [z10.val]) :: (nv 6 [z12.val]) :: (nv 6 [z9.val]) :: (nv 6 [z7.val]) :: (nv 6 [z13.val]) :: (nv 6 [z14.val]) :: (nv 6 [z11.val]) :: (nv 6 [z10.val]) :: (nv 6 [z15.val]) :: (nv 6 [z2.val]) :: (nv 6 [z7.val]) :: (nv 6 [z16.val]) :: (nv 6 [z17.val]) :: (nv 6 [z9.val]) :: (nv 6 [z11.val]) :: (nv 6 [z18.val]) :: (nv 6 [z2.val]) :: (nv 6 [z8.val]) :: (nv 6 [z19.val]) :: (nv 6 [z20.val]) :: (sv [.n 6 z14.val, .n 6 z17.val, .n 6 z20.val]) :: []), []⟩) 22 ((γ1 2)) 0 (segs [.n 6 z14.val, .n 6 z17.val, .n 6 z20.val]) 0 (fun _ => 0) (fun _ => 0) (fun _ => 0) (fun _ => []) (fun _ => []) [66, 67, 68, 69, 70, 71, 72, 73, 74, 75, 76, 77, 78, 79, 80, 81, 82, 83, 84, 85, 86, 87] (.inl ⟨rfl, by kernel_rfl⟩) (by kernel_rfl) rfl rfl rfl ?_ ?_)
  · refine GSteps.cons (late_step (gm_val (v := nv 6 [z8.val]) rfl (fun _ => rfl) (fun _ => rfl) (fun γ w h => ex_loadsn (K := 6) 0 1 (m := [z8.val]) flFp rfl rfl (A49.keep h.out) rfl rfl) rfl) (by kernel_rfl) rfl) ?_
    refine GSteps.cons (late_step (gm_val (v := nv 6 [z10.val]) rfl (fun _ => rfl) (fun _ => rfl) (fun γ w h => ex_loadsn (K := 6) 0 1 (m := [z10.val]) flFp rfl rfl (A51.keep h.out) rfl rfl) rfl) (by kernel_rfl) rfl) ?_
    refine GSteps.cons (late_step (gm_call (v := nv 6 [z12.val]) rfl (fun _ => rfl) (fun _ => rfl) (fun γ w => ex_call (vs := [nv 6 [z8.val], nv 6 [z10.val]]) rfl Try.call59 rfl) (fun w h => fpMul_e z8 z10 z12 rfl rfl ez12 _) rfl) (by kernel_rfl) rfl) ?_
    refine GSteps.cons (late_step (gm_val (v := nv 6 [z9.val]) rfl (fun _ => rfl) (fun _ => rfl) (fun γ w h => ex_loadsn (K := 6) 0 1 (m := [z9.val]) flFp rfl rfl (A50.keep h.out) rfl rfl) rfl) (by kernel_rfl) rfl) ?_
    refine GSteps.cons (late_step (gm_val (v := nv 6 [z7.val]) rfl (fun _ => rfl) (fun _ => rfl) (fun γ w h => ex_loadsn (K := 6) 0 1 (m := [z7.val]) flFp rfl rfl (A48.keep h.out) rfl rfl) rfl) (by kernel_rfl) rfl) ?_
    refine GSteps.cons (late_step (gm_call (v := nv 6 [z13.val]) rfl (fun _ => rfl) (fun _ => rfl) (fun γ w => ex_call (vs := [nv 6 [z9.val], nv 6 [z7.val]]) rfl Try.call59 rfl) (fun w h => fpMul_e z9 z7 z13 rfl rfl ez13 _) rfl) (by kernel_rfl) rfl) ?_
    refine GSteps.cons (late_step (gm_call (v := nv 6 [z14.val]) rfl (fun _ => rfl) (fun _ => rfl) (fun γ w => ex_call (vs := [nv 6 [z12.val], nv 6 [z13.val]]) rfl Try.call63 rfl) (fun w h => fpSub_e z12 z13 z14 rfl rfl ez14 _) rfl) (by kernel_rfl) rfl) ?_
    refine GSteps.cons (late_step (gm_val (v := nv 6 [z11.val]) rfl (fun _ => rfl) (fun _ => rfl) (fun γ w h => ex_loadsn (K := 6) 0 1 (m := [z11.val]) flFp rfl rfl (A52.keep h.out) rfl rfl) rfl) (by kernel_rfl) rfl) ?_
    refine GSteps.cons (late_step (gm_val (v := nv 6 [z10.val]) rfl (fun _ => rfl) (fun _ => rfl) (fun γ w h => ex_loadsn (K := 6) 0 1 (m := [z10.val]) flFp rfl rfl (A51.keep h.out) rfl rfl) rfl) (by kernel_rfl) rfl) ?_
    refine GSteps.cons (late_step (gm_call (v := nv 6 [z15.val]) rfl (fun _ => rfl) (fun _ => rfl) (fun γ w => ex_call (vs := [nv 6 [z11.val], nv 6 [z10.val]]) rfl Try.call59 rfl) (fun w h => fpMul_e z11 z10 z15 rfl rfl ez15 _) rfl) (by kernel_rfl) rfl) ?_
    refine GSteps.cons (late_step (gm_val (v := nv 6 [z2.val]) rfl (fun _ => rfl) (fun _ => rfl) (fun γ w h => ex_loadsn (K := 6) 0 1 (m := [z2.val]) flFp rfl rfl (A45.keep h.out) rfl rfl) rfl) (by kernel_rfl) rfl) ?_
    refine GSteps.cons (late_step (gm_val (v := nv 6 [z7.val]) rfl (fun _ => rfl) (fun _ => rfl) (fun γ w h => ex_loadsn (K := 6) 0 1 (m := [z7.val]) flFp rfl rfl (A48.keep h.out) rfl rfl) rfl) (by kernel_rfl) rfl) ?_
    refine GSteps.cons (late_step (gm_call (v := nv 6 [z16.val]) rfl (fun _ => rfl) (fun _ => rfl) (fun γ w => ex_call (vs := [nv 6 [z2.val], nv 6 [z7.val]]) rfl Try.call59 rfl) (fun w h => fpMul_e z2 z7 z16 rfl rfl ez16 _) rfl) (by kernel_rfl) rfl) ?_
    refine GSteps.cons (late_step (gm_call (v := nv 6 [z17.val]) rfl (fun _ => rfl) (fun _ => rfl) (fun γ w => ex_call (vs := [nv 6 [z15.val], nv 6 [z16.val]]) rfl Try.call60 rfl) (fun w h => fpAdd_e z15 z16 z17 rfl rfl ez17 _) rfl) (by kernel_rfl) rfl) ?_
    refine GSteps.cons (late_step (gm_val (v := nv 6 [z9.val]) rfl (fun _ => rfl) (fun _ => rfl) (fun γ w h => ex_loadsn (K := 6) 0 1 (m := [z9.val]) flFp rfl rfl (A50.keep h.out) rfl rfl) rfl) (by kernel_rfl) rfl) ?_
    refine GSteps.cons (late_step (gm_val (v := nv 6 [z11.val]) rfl (fun _ => rfl) (fun _ => rfl) (fun γ w h => ex_loadsn (K := 6) 0 1 (m := [z11.val]) flFp rfl rfl (A52.keep h.out) rfl rfl) rfl) (by kernel_rfl) rfl) ?_
    refine GSteps.cons (late_step (gm_call (v := nv 6 [z18.val]) rfl (fun _ => rfl) (fun _ => rfl) (fun γ w => ex_call (vs := [nv 6 [z9.val], nv 6 [z11.val]]) rfl Try.call59 rfl) (fun w h => fpMul_e z9 z11 z18 rfl rfl ez18 _) rfl) (by kernel_rfl) rfl) ?_
    refine GSteps.cons (late_step (gm_val (v := nv 6 [z2.val]) rfl (fun _ => rfl) (fun _ => rfl) (fun γ w h => ex_loadsn (K := 6) 0 1 (m := [z2.val]) flFp rfl rfl (A45.keep h.out) rfl rfl) rfl) (by kernel_rfl) rfl) ?_
    refine GSteps.cons (late_step (gm_val (v := nv 6 [z8.val]) rfl (fun _ => rfl) (fun _ => rfl) (fun γ w h => ex_loadsn (K := 6) 0 1 (m := [z8.val]) flFp rfl rfl (A49.keep h.out) rfl rfl) rfl) (by kernel_rfl) rfl) ?_
    refine GSteps.cons (late_step (gm_call (v := nv 6 [z19.val]) rfl (fun _ => rfl) (fun _ => rfl) (fun γ w => ex_call (vs := [nv 6 [z2.val], nv 6 [z8.val]]) rfl Try.call59 rfl) (fun w h => fpMul_e z2 z8 z19 rfl rfl ez19 _) rfl) (by kernel_rfl) rfl) ?_
    refine GSteps.cons (late_step (gm_call (v := nv 6 [z20.val]) rfl (fun _ => rfl) (fun _ => rfl) (fun γ w => ex_call (vs := [nv 6 [z18.val], nv 6 [z19.val]]) rfl Try.call60 rfl) (fun w h => fpAdd_e z18 z19 z20 rfl rfl ez20 _) rfl) (by kernel_rfl) rfl) ?_
    refine GSteps.cons (late_step (gm_val (v := sv [.n 6 z14.val, .n 6 z17.val, .n 6 z20.val]) rfl (fun _ => rfl) (fun _ => rfl) (fun γ w h => ex_builds stPG1 (l := [.n 6 z14.val, .n 6 z17.val, .n 6 z20.val]) (vs := [(0, nv 6 [z14.val]), (1, nv 6 [z17.val]), (2, nv 6 [z20.val])]) rfl ((fills_cons 0 1 (m := [.n 6 z14.val]) (z' := [.n 6 z14.val, .n 6 0, .n 6 0]) rfl (nv_cells 6 [z14.val]) rfl rfl rfl rfl).trans ((fills_cons 1 1 (m := [.n 6 z17.val]) (z' := [.n 6 z14.val, .n 6 z17.val, .n 6 0]) rfl (nv_cells 6 [z17.val]) rfl rfl rfl rfl).trans ((fills_cons 2 1 (m := [.n 6 z20.val]) (z' := [.n 6 z14.val, .n 6 z17.val, .n 6 z20.val]) rfl (nv_cells 6 [z20.val]) rfl rfl rfl rfl).trans rfl)))) rfl) (by kernel_rfl) rfl) ?_
    refine GSteps.cons (late_store rfl (fun _ => rfl) (fun γ w h => ex_stores 0 3 (l := [.n 6 0, .n 6 0, .n 6 0]) (m := [.n 6 z14.val, .n 6 z17.val, .n 6 z20.val]) flPG1.2 rfl rfl rfl rfl (A44.keep h.out) rfl rfl) rfl) ?_
    exact GSteps.nil
  intro _ w54 w54_ hb54 _ _ hs54
  refine th_r ?_
  have A55 := A42.keep hb54.out
  have A56 := A43.keep hb54.out
  have A57 := A44.keep hb54.out
  have A58 := A45.keep hb54.out
  have A59 := A46.keep hb54.out
  have A60 := A47.keep hb54.out
  have A61 := A48.keep hb54.out
  have A62 := A49.keep hb54.out
  have A63 := A50.keep hb54.out
  have A64 := A51.keep hb54.out
  have A65 := A52.keep hb54.out
  have HB66 := below_then HB53 hb54.out
  have A67 := hs54.other (hn1 0 2 (by decide) (by decide) (by decide)) A55
  have A68 := hs54.other (hn1 1 2 (by decide) (by decide) (by decide)) A56
  have A69 := hs54.here 0 3 (l' := [.n 6 z14.val, .n 6 z17.val, .n 6 z20.val]) A57 rfl rfl rfl
  have A70 := hs54.other (Ne.symm (Nat.ne_of_lt (Nat.lt_of_lt_of_le A4.lt le10))) A58
  have A71 := hs54.other (Ne.symm (Nat.ne_of_lt (Nat.lt_of_lt_of_le A4.lt le11))) A59
  have A72 := hs54.other (Ne.symm (Nat.ne_of_lt (Nat.lt_of_lt_of_le A9.lt le19))) A60
  have A73 := hs54.other (Ne.symm (Nat.ne_of_lt (Nat.lt_of_lt_of_le A16.lt le28))) A61
  have A74 := hs54.other (Ne.symm (Nat.ne_of_lt (Nat.lt_of_lt_of_le A24.lt le38))) A62
  have A75 := hs54.other (Ne.symm (Nat.ne_of_lt (Nat.lt_of_lt_of_le A24.lt le39))) A63
  have A76 := hs54.other (Ne.symm (Nat.ne_of_lt (Nat.lt_of_lt_of_le A33.lt le51))) A64
  have A77 := hs54.other (Ne.symm (Nat.ne_of_lt (Nat.lt_of_lt_of_le A33.lt le52))) A65
  have HB78 := hs54.below HB66 (Nat.le_trans (Nat.le_refl _) le4)
  exact wp_ret (bodyPost_ret (ret1 Try.results35 (res_sv rfl A69 flPG1 rfl)) rfl ⟨rfl, HB78⟩)

set_option maxRecDepth 20000 in
set_option maxHeartbeats 4000000 in
theorem onetwice_q {s u : Tri Zp} (hu : u = twiceT (12 : Zp) s) (w : World) :
    Calls Try.prog 66 #[sv [.n 6 s.x.val, .n 6 s.y.val, .n 6 s.z.val]] w (Is (sv [.n 6 u.x.val, .n 6 u.y.val, .n 6 u.z.val]) w) := by
  obtain ⟨z1, ez1⟩ : ∃ q_ : Zp, q_ = s.y * s.y := ⟨_, rfl⟩
  obtain ⟨z2, ez2⟩ : ∃ q_ : Zp, q_ = s.z * s.z := ⟨_, rfl⟩
  obtain ⟨z3, ez3⟩ : ∃ q_ : Zp, q_ = ((12 : Zp)) * z2 := ⟨_, rfl⟩
  obtain ⟨z4, ez4⟩ : ∃ q_ : Zp, q_ = 3 * z3 := ⟨_, rfl⟩
  obtain ⟨z5, ez5⟩ : ∃ q_ : Zp, q_ = z1 - z4 := ⟨_, rfl⟩
  obtain ⟨z6, ez6⟩ : ∃ q_ : Zp, q_ = z1 + z3 := ⟨_, rfl⟩
  obtain ⟨z7, ez7⟩ : ∃ q_ : Zp, q_ = ((8 : Zp)) * z1 := ⟨_, rfl⟩
  obtain ⟨z8, ez8⟩ : ∃ q_ : Zp, q_ = s.x * s.y := ⟨_, rfl⟩
  obtain ⟨z9, ez9⟩ : ∃ q_ : Zp, q_ = 2 * z8 := ⟨_, rfl⟩
  obtain ⟨z10, ez10⟩ : ∃ q_ : Zp, q_ = z9 * z5 := ⟨_, rfl⟩
  obtain ⟨z11, ez11⟩ : ∃ q_ : Zp, q_ = z6 * z5 := ⟨_, rfl⟩
  obtain ⟨z12, ez12⟩ : ∃ q_ : Zp, q_ = z7 * z3 := ⟨_, rfl⟩
  obtain ⟨z13, ez13⟩ : ∃ q_ : Zp, q_ = z11 + z12 := ⟨_, rfl⟩
  obtain ⟨z14, ez14⟩ : ∃ q_ : Zp, q_ = s.y * s.z := ⟨_, rfl⟩
  obtain ⟨z15, ez15⟩ : ∃ q_ : Zp, q_ = z7 * z14 := ⟨_, rfl⟩
  have E : twiceT (12 : Zp) s = ⟨z10, z13, z15⟩ := by subst ez15 ez14 ez13 ez12 ez11 ez10 ez9 ez8 ez7 ez6 ez5 ez4 ez3 ez2 ez1; rfl
  rw [hu, E]
  go_enter Try.func66, Try.ntmps66
  refine wp_seq (region_m (F := fun γ => ⟨List.toArray ((sv [.n 6 s.x.val, .n 6 s.y.val, .n 6 s.z.val]) :: (.pointer (some ⟨γ 0, 0, none⟩)) :: (.pointer (some ⟨γ 1, 0, none⟩)) :: undef :: undef :: undef :: undef :: undef :: undef :: undef :: undef :: undef :: undef :: undef :: undef :: undef :: undef :: undef :: undef :: undef :: undef :: undef :: undef :: undef :: undef :: undef :: undef :: undef :: undef :: undef :: undef :: undef :: undef :: undef :: undef :: undef :: undef :: undef :: undef :: undef :: undef :: undef :: undef :: undef :: undef :: undef :: undef :: undef :: undef :: undef :: undef :: undef :: undef :: []), []⟩) 2 (fun j_ => match j_ with | 0 => 58 | _ => 58) (fun j_ => match j_ with | 0 => 0 | _ => 1) (fun j_ => match j_ with | 0 => 0 | _ => 1) (fun j_ => match j_ with | 0 => segs [.n 6 s.x.val, .n 6 s.y.val, .n 6 s.z.val] | _ => segs [.n 6 0, .n 6 0, .n 6 0]) (fun j_ => match j_ with | 0 => segs [.n 6 s.x.val, .n 6 s.y.val, .n 6 s.z.val] | _ => segs [.n 6 0, .n 6 0, .n 6 0]) [1, 2] (.inr ⟨rfl, by kernel_rfl⟩) (by kernel_rfl) rfl rfl rfl ?_ ?_)
  · refine GSteps.cons (gm_box 0 rfl (fun _ => rfl) (fun _ _ => rfl) (fun γ w h => ex_boxs (l := [.n 6 s.x.val, .n 6 s.y.val, .n 6 s.z.val]) rfl) rfl rfl rfl) ?_
    refine GSteps.cons (gm_box 1 rfl (fun _ => rfl) (fun _ _ => rfl) (fun γ w h => ex_allocs (l := [.n 6 0, .n 6 0, .n 6 0]) zPG1) rfl rfl rfl) ?_
    exact GSteps.nil
  intro γ1 w1 hb1 hB1 hn1
  refine th_r ?_
  have A2 : SB 58 w1 (γ1 0) [.n 6 s.x.val, .n 6 s.y.val, .n 6 s.z.val] := (hB1 0 (by decide)).2
  have le2 := (hB1 0 (by decide)).1
  have A3 : SB 58 w1 (γ1 1) [.n 6 0, .n 6 0, .n 6 0] := (hB1 1 (by decide)).2
  have le3 := (hB1 1 (by decide)).1
  have HB4 := below_then (Below.refl w.heap.size w) hb1.out
  refine wp_seq (region_m (F := fun γ => ⟨List.toArray ((sv [.n 6 s.x.val, .n 6 s.y.val, .n 6 s.z.val]) :: (.pointer (some ⟨(γ1 0), 0, none⟩)) :: (.pointer (some ⟨(γ1 1), 0, none⟩)) :: (.pointer (some ⟨γ 0, 0, none⟩)) :: (.pointer (some ⟨γ 1, 0, none⟩)) :: undef :: undef :: undef :: (.pointer (some ⟨(γ1 0), 6, none⟩)) :: (nv 6 [s.y.val]) :: (.pointer (some ⟨(γ1 0), 6, none⟩)) :: (nv 6 [s.y.val]) :: (nv 6 [z1.val]) :: (nv 6 [12]) :: (.pointer (some ⟨(γ1 0), 12, none⟩)) :: (nv 6 [s.z.val]) :: (.pointer (some ⟨(γ1 0), 12, none⟩)) :: (nv 6 [s.z.val]) :: (nv 6 [z2.val]) :: (nv 6 [z3.val]) :: undef :: undef :: undef :: undef :: undef :: undef :: undef :: undef :: undef :: undef :: undef :: undef :: undef :: undef :: undef :: undef :: undef :: undef :: undef :: undef :: undef :: undef :: undef :: undef :: undef :: undef :: undef :: undef :: undef :: undef :: undef :: undef :: undef :: []), []⟩) 2 (fun j_ => match j_ with | 0 => 24 | _ => 24) (fun j_ => match j_ with | 0 => 12 | _ => 13) (fun j_ => match j_ with | 0 => 14 | _ => 15) (fun j_ => match j_ with | 0 => segs [.n 6 0] | _ => segs [.n 6 0]) (fun j_ => match j_ with | 0 => segs [.n 6 z1.val] | _ => segs [.n 6 z3.val]) [8, 9, 10, 11, 12, 13, 14, 15, 16, 17, 18, 19, 3, 4] (.inl ⟨rfl, by kernel_rfl⟩) (by kernel_rfl) rfl rfl rfl ?_ ?_)
  · refine GSteps.cons (gm_valg (fun γ => .pointer (some ⟨(γ1 0), 6, none⟩)) rfl (fun _ => rfl) (fun _ => rfl) (fun γ w h => ex_field faPG1_1 rfl) rfl) ?_
    refine GSteps.cons (gm_val (v := nv 6 [s.y.val]) rfl (fun _ => rfl) (fun _ => rfl) (fun γ w h => ex_loadsn (K := 6) 1 1 (m := [s.y.val]) flFp rfl rfl (A2.keep h.out) rfl rfl) rfl) ?_
    refine GSteps.cons (gm_valg (fun γ => .pointer (some ⟨(γ1 0), 6, none⟩)) rfl (fun _ => rfl) (fun _ => rfl) (fun γ w h => ex_field faPG1_1 rfl) rfl) ?_
    refine GSteps.cons (gm_val (v := nv 6 [s.y.val]) rfl (fun _ => rfl) (fun _ => rfl) (fun γ w h => ex_loadsn (K := 6) 1 1 (m := [s.y.val]) flFp rfl rfl (A2.keep h.out) rfl rfl) rfl) ?_
    refine GSteps.cons (gm_call (v := nv 6 [z1.val]) rfl (fun _ => rfl) (fun _ => rfl) (fun γ w => ex_call (vs := [nv 6 [s.y.val], nv 6 [s.y.val]]) rfl Try.call59 rfl) (fun w h => fpMul_e s.y s.y z1 rfl rfl ez1 _) rfl) ?_
    refine GSteps.cons (gm_val (v := nv 6 [12]) rfl (fun _ => rfl) (fun _ => rfl) (fun γ w h => ex_limb6 (e := 12) (by decide) rfl) rfl) ?_
    refine GSteps.cons (gm_valg (fun γ => .pointer (some ⟨(γ1 0), 12, none⟩)) rfl (fun _ => rfl) (fun _ => rfl) (fun γ w h => ex_field faPG1_2 rfl) rfl) ?_
    refine GSteps.cons (gm_val (v := nv 6 [s.z.val]) rfl (fun _ => rfl) (fun _ => rfl) (fun γ w h => ex_loadsn (K := 6) 2 1 (m := [s.z.val]) flFp rfl rfl (A2.keep h.out) rfl rfl) rfl) ?_
    refine GSteps.cons (gm_valg (fun γ => .pointer (some ⟨(γ1 0), 12, none⟩)) rfl (fun _ => rfl) (fun _ => rfl) (fun γ w h => ex_field faPG1_2 rfl) rfl) ?_
    refine GSteps.cons (gm_val (v := nv 6 [s.z.val]) rfl (fun _ => rfl) (fun _ => rfl) (fun γ w h => ex_loadsn (K := 6) 2 1 (m := [s.z.val]) flFp rfl rfl (A2.keep h.out) rfl rfl) rfl) ?_
    refine GSteps.cons (gm_call (v := nv 6 [z2.val]) rfl (fun _ => rfl) (fun _ => rfl) (fun γ w => ex_call (vs := [nv 6 [s.z.val], nv 6 [s.z.val]]) rfl Try.call59 rfl) (fun w h => fpMul_e s.z s.z z2 rfl rfl ez2 _) rfl) ?_
    refine GSteps.cons (gm_call (v := nv 6 [z3.val]) rfl (fun _ => rfl) (fun _ => rfl) (fun γ w => ex_call (vs := [nv 6 [12], nv 6 [z2.val]]) rfl Try.call59 rfl) (fun w h => fpMul_e ((12 : Zp)) z2 z3 (zc 12 (small_P (by decide))) rfl ez3 _) rfl) ?_
    refine GSteps.cons (gm_new 0 rfl (fun _ => rfl) (fun _ _ => rfl) (fun γ w => ex_allocsn (K := 6) (l := [0]) zFp) rfl (by kernel_rfl)) ?_
    refine GSteps.cons (gm_new 1 rfl (fun _ => rfl) (fun _ _ => rfl) (fun γ w => ex_allocsn (K := 6) (l := [0]) zFp) rfl (by kernel_rfl)) ?_
    refine GSteps.cons (gm_store 0 rfl rfl (fun _ => rfl) (len_segs (l := [.n 6 z1.val]) (l' := [.n 6 0]) rfl) (fun γ w h => ex_stores 0 1 (l := [.n 6 0]) (m := [.n 6 z1.val]) flFp.2 rfl rfl rfl (nv_cells 6 [z1.val]) h rfl rfl) rfl rfl (by kernel_rfl)) ?_
    refine GSteps.cons (gm_store 1 rfl rfl (fun _ => rfl) (len_segs (l := [.n 6 z3.val]) (l' := [.n 6 0]) rfl) (fun γ w h => ex_stores 0 1 (l := [.n 6 0]) (m := [.n 6 z3.val]) flFp.2 rfl rfl rfl (nv_cells 6 [z3.val]) h rfl rfl) rfl rfl (by kernel_rfl)) ?_
    exact GSteps.nil
  intro γ5 w5 hb5 hB5 hn5
  refine th_r ?_
  have A6 := A2.keep hb5.out
  have A7 := A3.keep hb5.out
  have A8 : SB 24 w5 (γ5 0) [.n 6 z1.val] := (hB5 0 (by decide)).2
  have le8 := (hB5 0 (by decide)).1
  have A9 : SB 24 w5 (γ5 1) [.n 6 z3.val] := (hB5 1 (by decide)).2
  have le9 := (hB5 1 (by decide)).1
  have HB10 := below_then HB4 hb5.out
  refine wp_seq (region_m (F := fun γ => ⟨List.toArray ((sv [.n 6 s.x.val, .n 6 s.y.val, .n 6 s.z.val]) :: (.pointer (some ⟨(γ1 0), 0, none⟩)) :: (.pointer (some ⟨(γ1 1), 0, none⟩)) :: (.pointer (some ⟨(γ5 0), 0, none⟩)) :: (.pointer (some ⟨(γ5 1), 0, none⟩)) :: (.pointer (some ⟨γ 0, 0, none⟩)) :: (.pointer (some ⟨γ 1, 0, none⟩)) :: undef :: (.pointer (some ⟨(γ1 0), 6, none⟩)) :: (nv 6 [s.y.val]) :: (.pointer (some ⟨(γ1 0), 6, none⟩)) :: (nv 6 [s.y.val]) :: (nv 6 [z1.val]) :: (nv 6 [12]) :: (.pointer (some ⟨(γ1 0), 12, none⟩)) :: (nv 6 [s.z.val]) :: (.pointer (some ⟨(γ1 0), 12, none⟩)) :: (nv 6 [s.z.val]) :: (nv 6 [z2.val]) :: (nv 6 [z3.val]) :: (nv 6 [z1.val]) :: (nv 6 [z3.val]) :: (nv 6 [z4.val]) :: (nv 6 [z5.val]) :: (nv 6 [z1.val]) :: (nv 6 [z3.val]) :: (nv 6 [z6.val]) :: undef :: undef :: undef :: undef :: undef :: undef :: undef :: undef :: undef :: undef :: undef :: undef :: undef :: undef :: undef :: undef :: undef :: undef :: undef :: undef :: undef :: undef :: undef :: undef :: undef :: undef :: []), []⟩) 2 (fun j_ => match j_ with | 0 => 24 | _ => 24) (fun j_ => match j_ with | 0 => 7 | _ => 8) (fun j_ => match j_ with | 0 => 9 | _ => 10) (fun j_ => match j_ with | 0 => segs [.n 6 0] | _ => segs [.n 6 0]) (fun j_ => match j_ with | 0 => segs [.n 6 z5.val] | _ => segs [.n 6 z6.val]) [20, 21, 22, 23, 24, 25, 26, 5, 6] (.inl ⟨rfl, by kernel_rfl⟩) (by kernel_rfl) rfl rfl rfl ?_ ?_)
  · refine GSteps.cons (gm_val (v := nv 6 [z1.val]) rfl (fun _ => rfl) (fun _ => rfl) (fun γ w h => ex_loadsn (K := 6) 0 1 (m := [z1.val]) flFp rfl rfl (A8.keep h.out) rfl rfl) rfl) ?_
    refine GSteps.cons (gm_val (v := nv 6 [z3.val]) rfl (fun _ => rfl) (fun _ => rfl) (fun γ w h => ex_loadsn (K := 6) 0 1 (m := [z3.val]) flFp rfl rfl (A9.keep h.out) rfl rfl) rfl) ?_
    refine GSteps.cons (gm_call (v := nv 6 [z4.val]) rfl (fun _ => rfl) (fun _ => rfl) (fun γ w => ex_call (vs := [nv 6 [z3.val]]) rfl Try.call61 rfl) (fun w h => onethreefold_e z3 z4 rfl ez4 _) rfl) ?_
    refine GSteps.cons (gm_call (v := nv 6 [z5.val]) rfl (fun _ => rfl) (fun _ => rfl) (fun γ w => ex_call (vs := [nv 6 [z1.val], nv 6 [z4.val]]) rfl Try.call63 rfl) (fun w h => fpSub_e z1 z4 z5 rfl rfl ez5 _) rfl) ?_
    refine GSteps.cons (gm_val (v := nv 6 [z1.val]) rfl (fun _ => rfl) (fun _ => rfl) (fun γ w h => ex_loadsn (K := 6) 0 1 (m := [z1.val]) flFp rfl rfl (A8.keep h.out) rfl rfl) rfl) ?_
    refine GSteps.cons (gm_val (v := nv 6 [z3.val]) rfl (fun _ => rfl) (fun _ => rfl) (fun γ w h => ex_loadsn (K := 6) 0 1 (m := [z3.val]) flFp rfl rfl (A9.keep h.out) rfl rfl) rfl) ?_
    refine GSteps.cons (gm_call (v := nv 6 [z6.val]) rfl (fun _ => rfl) (fun _ => rfl) (fun γ w => ex_call (vs := [nv 6 [z1.val], nv 6 [z3.val]]) rfl Try.call60 rfl) (fun w h => fpAdd_e z1 z3 z6 rfl rfl ez6 _) rfl) ?_
    refine GSteps.cons (gm_new 0 rfl (fun _ => rfl) (fun _ _ => rfl) (fun γ w => ex_allocsn (K := 6) (l := [0]) zFp) rfl (by kernel_rfl)) ?_
    refine GSteps.cons (gm_new 1 rfl (fun _ => rfl) (fun _ _ => rfl) (fun γ w => ex_allocsn (K := 6) (l := [0]) zFp) rfl (by kernel_rfl)) ?_
    refine GSteps.cons (gm_store 0 rfl rfl (fun _ => rfl) (len_segs (l := [.n 6 z5.val]) (l' := [.n 6 0]) rfl) (fun γ w h => ex_stores 0 1 (l := [.n 6 0]) (m := [.n 6 z5.val]) flFp.2 rfl rfl rfl (nv_cells 6 [z5.val]) h rfl rfl) rfl rfl (by kernel_rfl)) ?_
    refine GSteps.cons (gm_store 1 rfl rfl (fun _ => rfl) (len_segs (l := [.n 6 z6.val]) (l' := [.n 6 0]) rfl) (fun γ w h => ex_stores 0 1 (l := [.n 6 0]) (m := [.n 6 z6.val]) flFp.2 rfl rfl rfl (nv_cells 6 [z6.val]) h rfl rfl) rfl rfl (by kernel_rfl)) ?_
    exact GSteps.nil
  intro γ11 w11 hb11 hB11 hn11
  refine th_r ?_
  have A12 := A6.keep hb11.out
  have A13 := A7.keep hb11.out
  have A14 := A8.keep hb11.out
  have A15 := A9.keep hb11.out
  have A16 : SB 24 w11 (γ11 0) [.n 6 z5.val] := (hB11 0 (by decide)).2
  have le16 := (hB11 0 (by decide)).1
  have A17 : SB 24 w11 (γ11 1) [.n 6 z6.val] := (hB11 1 (by decide)).2
  have le17 := (hB11 1 (by decide)).1
  have HB18 := below_then HB10 hb11.out
  refine wp_seq (region_m (F := fun γ => ⟨List.toArray ((sv [.n 6 s.x.val, .n 6 s.y.val, .n 6 s.z.val]) :: (.pointer (some ⟨(γ1 0), 0, none⟩)) :: (.pointer (some ⟨(γ1 1), 0, none⟩)) :: (.pointer (some ⟨(γ5 0), 0, none⟩)) :: (.pointer (some ⟨(γ5 1), 0, none⟩)) :: (.pointer (some ⟨(γ11 0), 0, none⟩)) :: (.pointer (some ⟨(γ11 1), 0, none⟩)) :: (.pointer (some ⟨γ 0, 0, none⟩)) :: (.pointer (some ⟨(γ1 0), 6, none⟩)) :: (nv 6 [s.y.val]) :: (.pointer (some ⟨(γ1 0), 6, none⟩)) :: (nv 6 [s.y.val]) :: (nv 6 [z1.val]) :: (nv 6 [12]) :: (.pointer (some ⟨(γ1 0), 12, none⟩)) :: (nv 6 [s.z.val]) :: (.pointer (some ⟨(γ1 0), 12, none⟩)) :: (nv 6 [s.z.val]) :: (nv 6 [z2.val]) :: (nv 6 [z3.val]) :: (nv 6 [z1.val]) :: (nv 6 [z3.val]) :: (nv 6 [z4.val]) :: (nv 6 [z5.val]) :: (nv 6 [z1.val]) :: (nv 6 [z3.val]) :: (nv 6 [z6.val]) :: (nv 6 [8]) :: (nv 6 [z1.val]) :: (nv 6 [z7.val]) :: undef :: undef :: undef :: undef :: undef :: undef :: undef :: undef :: undef :: undef :: undef :: undef :: undef :: undef :: undef :: undef :: undef :: undef :: undef :: undef :: undef :: undef :: undef :: []), []⟩) 1 (fun _ => 24) (fun _ => 3) (fun _ => 4) (fun _ => segs [.n 6 0]) (fun _ => segs [.n 6 z7.val]) [27, 28, 29, 7] (.inr ⟨rfl, by kernel_rfl⟩) (by kernel_rfl) rfl rfl rfl ?_ ?_)
  · refine GSteps.cons (gm_val (v := nv 6 [8]) rfl (fun _ => rfl) (fun _ => rfl) (fun γ w h => ex_limb6 (e := 8) (by decide) rfl) rfl) ?_
    refine GSteps.cons (gm_val (v := nv 6 [z1.val]) rfl (fun _ => rfl) (fun _ => rfl) (fun γ w h => ex_loadsn (K := 6) 0 1 (m := [z1.val]) flFp rfl rfl (A14.keep h.out) rfl rfl) rfl) ?_
    refine GSteps.cons (gm_call (v := nv 6 [z7.val]) rfl (fun _ => rfl) (fun _ => rfl) (fun γ w => ex_call (vs := [nv 6 [8], nv 6 [z1.val]]) rfl Try.call59 rfl) (fun w h => fpMul_e ((8 : Zp)) z1 z7 (zc 8 (small_P (by decide))) rfl ez7 _) rfl) ?_
    refine GSteps.cons (gm_new 0 rfl (fun _ => rfl) (fun _ _ => rfl) (fun γ w => ex_allocsn (K := 6) (l := [0]) zFp) rfl (by kernel_rfl)) ?_
    refine GSteps.cons (gm_store 0 rfl rfl (fun _ => rfl) (len_segs (l := [.n 6 z7.val]) (l' := [.n 6 0]) rfl) (fun γ w h => ex_stores 0 1 (l := [.n 6 0]) (m := [.n 6 z7.val]) flFp.2 rfl rfl rfl (nv_cells 6 [z7.val]) h rfl rfl) rfl rfl (by kernel_rfl)) ?_
    exact GSteps.nil
  intro γ19 w19 hb19 hB19 _
  refine th_r ?_
  have A20 := A12.keep hb19.out
  have A21 := A13.keep hb19.out
  have A22 := A14.keep hb19.out
  have A23 := A15.keep hb19.out
  have A24 := A16.keep hb19.out
  have A25 := A17.keep hb19.out
  have A26 : SB 24 w19 (γ19 0) [.n 6 z7.val] := (hB19 0 (by decide)).2
  have le26 := (hB19 0 (by decide)).1
  have HB27 := below_then HB18 hb19.out
  refine wp_seq (region_ms (F := fun _ => ⟨List.toArray ((sv [.n 6 s.x.val, .n 6 s.y.val, .n 6 s.z.val]) :: (.pointer (some ⟨(γ1 0), 0, none⟩)) :: (.pointer (some ⟨(γ1 1), 0, none⟩)) :: (.pointer (some ⟨(γ5 0), 0, none⟩)) :: (.pointer (some ⟨(γ5 1), 0, none⟩)) :: (.pointer (some ⟨(γ11 0), 0, none⟩)) :: (.pointer (some ⟨(γ11 1), 0, none⟩)) :: (.pointer (some ⟨(γ19 0), 0, none⟩)) :: (.pointer (some ⟨(γ1 0), 6, none⟩)) :: (nv 6 [s.y.val]) :: (.pointer (some ⟨(γ1 0), 6, none⟩)) :: (nv 6 [s.y.val]) :: (nv 6 [z1.val]) :: (nv 6 [12]) :: (.pointer (some ⟨(γ1 0), 12, none⟩)) :: (nv 6 [s.z.val]) :: (.pointer (some ⟨(γ1 0), 12, none⟩)) :: (nv 6 [s.z.val]) :: (nv 6 [z2.val]) :: (nv 6 [z3.val]) :: (nv 6 [z1.val]) :: (nv 6 [z3.val]) :: (nv 6 [z4.val]) :: (nv 6 [z5.val]) :: (nv 6 [z1.val]) :: (nv 6 [z3.val]) :: (nv 6 [z6.val]) :: (nv 6 [8]) :: (nv 6 [z1.val]) :: (nv 6 [z7.val]) :: (.pointer (some ⟨(γ1 0), 0, none⟩)) :: (nv 6 [s.x.val]) :: (.pointer (some ⟨(γ1 0), 6, none⟩)) :: (nv 6 [s.y.val]) :: (nv 6 [z8.val]) :: (nv 6 [z9.val]) :: (nv 6 [z5.val]) :: (nv 6 [z10.val]) :: (nv 6 [z6.val]) :: (nv 6 [z5.val]) :: (nv 6 [z11.val]) :: (nv 6 [z7.val]) :: (nv 6 [z3.val]) :: (nv 6 [z12.val]) :: (nv 6 [z13.val]) :: (nv 6 [z7.val]) :: (.pointer (some ⟨(γ1 0), 6, none⟩)) :: (nv 6 [s.y.val]) :: (.pointer (some ⟨(γ1 0), 12, none⟩)) :: (nv 6 [s.z.val]) :: (nv 6 [z14.val]) :: (nv 6 [z15.val]) :: (sv [.n 6 z10.val, .n 6 z13.val, .n 6 z15.val]) :: []), []⟩) 23 ((γ1 1)) 0 (segs [.n 6 z10.val, .n 6 z13.val, .n 6 z15.val]) 0 (fun _ => 0) (fun _ => 0) (fun _ => 0) (fun _ => []) (fun _ => []) [30, 31, 32, 33, 34, 35, 36, 37, 38, 39, 40, 41, 42, 43, 44, 45, 46, 47, 48, 49, 50, 51, 52] (.inl ⟨rfl, by kernel_rfl⟩) (by kernel_rfl) rfl rfl rfl ?_ ?_)
  · refine GSteps.cons (late_step (gm_valg (fun γ => .pointer (some ⟨(γ1 0), 0, none⟩)) rfl (fun _ => rfl) (fun _ => rfl) (fun γ w h => ex_field faPG1_0 rfl) rfl) (by kernel_rfl) rfl) ?_
    refine GSteps.cons (late_step (gm_val (v := nv 6 [s.x.val]) rfl (fun _ => rfl) (fun _ => rfl) (fun γ w h => ex_loadsn (K := 6) 0 1 (m := [s.x.val]) flFp rfl rfl (A20.keep h.out) rfl rfl) rfl) (by kernel_rfl) rfl) ?_
    refine GSteps.cons (late_step (gm_valg (fun γ => .pointer (some ⟨(γ1 0), 6, none⟩)) rfl (fun _ => rfl) (fun _ => rfl) (fun γ w h => ex_field faPG1_1 rfl) rfl) (by kernel_rfl) rfl) ?_
    refine GSteps.cons (late_step (gm_val (v := nv 6 [s.y.val]) rfl (fun _ => rfl) (fun _ => rfl) (fun γ w h => ex_loadsn (K := 6) 1 1 (m := [s.y.val]) flFp rfl rfl (A20.keep h.out) rfl rfl) rfl) (by kernel_rfl) rfl) ?_
    refine GSteps.cons (late_step (gm_call (v := nv 6 [z8.val]) rfl (fun _ => rfl) (fun _ => rfl) (fun γ w => ex_call (vs := [nv 6 [s.x.val], nv 6 [s.y.val]]) rfl Try.call59 rfl) (fun w h => fpMul_e s.x s.y z8 rfl rfl ez8 _) rfl) (by kernel_rfl) rfl) ?_
    refine GSteps.cons (late_step (gm_call (v := nv 6 [z9.val]) rfl (fun _ => rfl) (fun _ => rfl) (fun γ w => ex_call (vs := [nv 6 [z8.val]]) rfl Try.call79 rfl) (fun w h => onetwofold_e z8 z9 rfl ez9 _) rfl) (by kernel_rfl) rfl) ?_
    refine GSteps.cons (late_step (gm_val (v := nv 6 [z5.val]) rfl (fun _ => rfl) (fun _ => rfl) (fun γ w h => ex_loadsn (K := 6) 0 1 (m := [z5.val]) flFp rfl rfl (A24.keep h.out) rfl rfl) rfl) (by kernel_rfl) rfl) ?_
    refine GSteps.cons (late_step (gm_call (v := nv 6 [z10.val]) rfl (fun _ => rfl) (fun _ => rfl) (fun γ w => ex_call (vs := [nv 6 [z9.val], nv 6 [z5.val]]) rfl Try.call59 rfl) (fun w h => fpMul_e z9 z5 z10 rfl rfl ez10 _) rfl) (by kernel_rfl) rfl) ?_
    refine GSteps.cons (late_step (gm_val (v := nv 6 [z6.val]) rfl (fun _ => rfl) (fun _ => rfl) (fun γ w h => ex_loadsn (K := 6) 0 1 (m := [z6.val]) flFp rfl rfl (A25.keep h.out) rfl rfl) rfl) (by kernel_rfl) rfl) ?_
    refine GSteps.cons (late_step (gm_val (v := nv 6 [z5.val]) rfl (fun _ => rfl) (fun _ => rfl) (fun γ w h => ex_loadsn (K := 6) 0 1 (m := [z5.val]) flFp rfl rfl (A24.keep h.out) rfl rfl) rfl) (by kernel_rfl) rfl) ?_
    refine GSteps.cons (late_step (gm_call (v := nv 6 [z11.val]) rfl (fun _ => rfl) (fun _ => rfl) (fun γ w => ex_call (vs := [nv 6 [z6.val], nv 6 [z5.val]]) rfl Try.call59 rfl) (fun w h => fpMul_e z6 z5 z11 rfl rfl ez11 _) rfl) (by kernel_rfl) rfl) ?_
    refine GSteps.cons (late_step (gm_val (v := nv 6 [z7.val]) rfl (fun _ => rfl) (fun _ => rfl) (fun γ w h => ex_loadsn (K := 6) 0 1 (m := [z7.val]) flFp rfl rfl (A26.keep h.out) rfl rfl) rfl) (by kernel_rfl) rfl) ?_
    refine GSteps.cons (late_step (gm_val (v := nv 6 [z3.val]) rfl (fun _ => rfl) (fun _ => rfl) (fun γ w h => ex_loadsn (K := 6) 0 1 (m := [z3.val]) flFp rfl rfl (A23.keep h.out) rfl rfl) rfl) (by kernel_rfl) rfl) ?_
    refine GSteps.cons (late_step (gm_call (v := nv 6 [z12.val]) rfl (fun _ => rfl) (fun _ => rfl) (fun γ w => ex_call (vs := [nv 6 [z7.val], nv 6 [z3.val]]) rfl Try.call59 rfl) (fun w h => fpMul_e z7 z3 z12 rfl rfl ez12 _) rfl) (by kernel_rfl) rfl) ?_
    refine GSteps.cons (late_step (gm_call (v := nv 6 [z13.val]) rfl (fun _ => rfl) (fun _ => rfl) (fun γ w => ex_call (vs := [nv 6 [z11.val], nv 6 [z12.val]]) rfl Try.call60 rfl) (fun w h => fpAdd_e z11 z12 z13 rfl rfl ez13 _) rfl) (by kernel_rfl) rfl) ?_
    refine GSteps.cons (late_step (gm_val (v := nv 6 [z7.val]) rfl (fun _ => rfl) (fun _ => rfl) (fun γ w h => ex_loadsn (K := 6) 0 1 (m := [z7.val]) flFp rfl rfl (A26.keep h.out) rfl rfl) rfl) (by kernel_rfl) rfl) ?_
    refine GSteps.cons (late_step (gm_valg (fun γ => .pointer (some ⟨(γ1 0), 6, none⟩)) rfl (fun _ => rfl) (fun _ => rfl) (fun γ w h => ex_field faPG1_1 rfl) rfl) (by kernel_rfl) rfl) ?_
    refine GSteps.cons (late_step (gm_val (v := nv 6 [s.y.val]) rfl (fun _ => rfl) (fun _ => rfl) (fun γ w h => ex_loadsn (K := 6) 1 1 (m := [s.y.val]) flFp rfl rfl (A20.keep h.out) rfl rfl) rfl) (by kernel_rfl) rfl) ?_
    refine GSteps.cons (late_step (gm_valg (fun γ => .pointer (some ⟨(γ1 0), 12, none⟩)) rfl (fun _ => rfl) (fun _ => rfl) (fun γ w h => ex_field faPG1_2 rfl) rfl) (by kernel_rfl) rfl) ?_
    refine GSteps.cons (late_step (gm_val (v := nv 6 [s.z.val]) rfl (fun _ => rfl) (fun _ => rfl) (fun γ w h => ex_loadsn (K := 6) 2 1 (m := [s.z.val]) flFp rfl rfl (A20.keep h.out) rfl rfl) rfl) (by kernel_rfl) rfl) ?_
    refine GSteps.cons (late_step (gm_call (v := nv 6 [z14.val]) rfl (fun _ => rfl) (fun _ => rfl) (fun γ w => ex_call (vs := [nv 6 [s.y.val], nv 6 [s.z.val]]) rfl Try.call59 rfl) (fun w h => fpMul_e s.y s.z z14 rfl rfl ez14 _) rfl) (by kernel_rfl) rfl) ?_
    refine GSteps.cons (late_step (gm_call (v := nv 6 [z15.val]) rfl (fun _ => rfl) (fun _ => rfl) (fun γ w => ex_call (vs := [nv 6 [z7.val], nv 6 [z14.val]]) rfl Try.call59 rfl) (fun w h => fpMul_e z7 z14 z15 rfl rfl ez15 _) rfl) (by kernel_rfl) rfl) ?_
    refine GSteps.cons (late_step (gm_val (v := sv [.n 6 z10.val, .n 6 z13.val, .n 6 z15.val]) rfl (fun _ => rfl) (fun _ => rfl) (fun γ w h => ex_builds stPG1 (l := [.n 6 z10.val, .n 6 z13.val, .n 6 z15.val]) (vs := [(0, nv 6 [z10.val]), (1, nv 6 [z13.val]), (2, nv 6 [z15.val])]) rfl ((fills_cons 0 1 (m := [.n 6 z10.val]) (z' := [.n 6 z10.val, .n 6 0, .n 6 0]) rfl (nv_cells 6 [z10.val]) rfl rfl rfl rfl).trans ((fills_cons 1 1 (m := [.n 6 z13.val]) (z' := [.n 6 z10.val, .n 6 z13.val, .n 6 0]) rfl (nv_cells 6 [z13.val]) rfl rfl rfl rfl).trans ((fills_cons 2 1 (m := [.n 6 z15.val]) (z' := [.n 6 z10.val, .n 6 z13.val, .n 6 z15.val]) rfl (nv_cells 6 [z15.val]) rfl rfl rfl rfl).trans rfl)))) rfl) (by kernel_rfl) rfl) ?_
    refine GSteps.cons (late_store rfl (fun _ => rfl) (fun γ w h => ex_stores 0 3 (l := [.n 6 0, .n 6 0, .n 6 0]) (m := [.n 6 z10.val, .n 6 z13.val, .n 6 z15.val]) flPG1.2 rfl rfl rfl rfl (A21.keep h.out) rfl rfl) rfl) ?_
    exact GSteps.nil
  intro _ w28 w28_ hb28 _ _ hs28
  refine th_r ?_
  have A29 := A20.keep hb28.out
  have A30 := A21.keep hb28.out
  have A31 := A22.keep hb28.out
  have A32 := A23.keep hb28.out
  have A33 := A24.keep hb28.out
  have A34 := A25.keep hb28.out
  have A35 := A26.keep hb28.out
  have HB36 := below_then HB27 hb28.out
  have A37 := hs28.other (hn1 0 1 (by decide) (by decide) (by decide)) A29
  have A38 := hs28.here 0 3 (l' := [.n 6 z10.val, .n 6 z13.val, .n 6 z15.val]) A30 rfl rfl rfl
  have A39 := hs28.other (Ne.symm (Nat.ne_of_lt (Nat.lt_of_lt_of_le A3.lt le8))) A31
  have A40 := hs28.other (Ne.symm (Nat.ne_of_lt (Nat.lt_of_lt_of_le A3.lt le9))) A32
  have A41 := hs28.other (Ne.symm (Nat.ne_of_lt (Nat.lt_of_lt_of_le A7.lt le16))) A33
  have A42 := hs28.other (Ne.symm (Nat.ne_of_lt (Nat.lt_of_lt_of_le A7.lt le17))) A34
  have A43 := hs28.other (Ne.symm (Nat.ne_of_lt (Nat.lt_of_lt_of_le A13.lt le26))) A35
  have HB44 := hs28.below HB36 (Nat.le_trans (Nat.le_refl _) le3)
  exact wp_ret (bodyPost_ret (ret1 Try.results66 (res_sv rfl A38 flPG1 rfl)) rfl ⟨rfl, HB44⟩)

set_option maxRecDepth 20000 in
set_option maxHeartbeats 4000000 in
theorem oneZero_v (w : World) :
    Calls Try.prog 14 #[] w (Is (sv [.n 6 0, .n 6 0, .b true]) w) := by
  go_enter Try.func14, Try.ntmps14
  refine wp_seq (region_m (F := fun γ => ⟨#[.pointer (some ⟨γ 0, 0, none⟩), undef], []⟩) 1 (fun _ => 26) (fun _ => 0) (fun _ => 0) (fun _ => segs [.n 6 0, .n 6 0, .b false]) (fun _ => segs [.n 6 0, .n 6 0, .b false]) [0] (.inr ⟨rfl, by kernel_rfl⟩) (by kernel_rfl) rfl rfl rfl ?_ ?_)
  · refine GSteps.cons (gm_box 0 rfl (fun _ => rfl) (fun _ _ => rfl) (fun γ w h => ex_allocs (l := [.n 6 0, .n 6 0, .b false]) zG1) rfl rfl rfl) ?_
    exact GSteps.nil
  intro γ1 w1 hb1 hB1 _
  refine th_r ?_
  have A2 : SB 26 w1 (γ1 0) [.n 6 0, .n 6 0, .b false] := (hB1 0 (by decide)).2
  have le2 := (hB1 0 (by decide)).1
  have HB3 := below_then (Below.refl w.heap.size w) hb1.out
  refine wp_seq (region_ms (F := fun _ => ⟨#[.pointer (some ⟨(γ1 0), 0, none⟩), sv [.n 6 0, .n 6 0, .b true]], []⟩) 1 ((γ1 0)) 0 (segs [.n 6 0, .n 6 0, .b true]) 0 (fun _ => 0) (fun _ => 0) (fun _ => 0) (fun _ => []) (fun _ => []) [1] (.inr ⟨rfl, by kernel_rfl⟩) (by kernel_rfl) rfl rfl rfl ?_ ?_)
  · refine GSteps.cons (late_step (gm_val (v := sv [.n 6 0, .n 6 0, .b true]) rfl (fun _ => rfl) (fun _ => rfl) (fun γ w h => ex_builds stG1 (l := [.n 6 0, .n 6 0, .b true]) (vs := [(2, .bool true)]) rfl ((fills_cons 2 1 (m := [.b true]) (z' := [.n 6 0, .n 6 0, .b true]) rfl (bool_cells true) rfl rfl rfl rfl).trans rfl)) rfl) (by kernel_rfl) rfl) ?_
    refine GSteps.cons (late_store rfl (fun _ => rfl) (fun γ w h => ex_stores 0 3 (l := [.n 6 0, .n 6 0, .b false]) (m := [.n 6 0, .n 6 0, .b true]) flG1.2 rfl rfl rfl rfl (A2.keep h.out) rfl rfl) rfl) ?_
    exact GSteps.nil
  intro _ w4 w4_ hb4 _ _ hs4
  refine th_r ?_
  have A5 := A2.keep hb4.out
  have HB6 := below_then HB3 hb4.out
  have A7 := hs4.here 0 3 (l' := [.n 6 0, .n 6 0, .b true]) A5 rfl rfl rfl
  have HB8 := hs4.below HB6 (Nat.le_trans (Nat.le_refl _) le2)
  exact wp_ret (bodyPost_ret (ret1 Try.results14 (res_sv rfl A7 flG1 rfl)) rfl ⟨rfl, HB8⟩)

set_option maxRecDepth 20000 in
set_option maxHeartbeats 4000000 in
theorem onenowhere_v (w : World) :
    Calls Try.prog 64 #[] w (Is (sv [.n 6 0, .n 6 1, .n 6 0]) w) := by
  go_enter Try.func64, Try.ntmps64
  refine wp_seq (region_m (F := fun γ => ⟨#[.pointer (some ⟨γ 0, 0, none⟩), undef, undef], []⟩) 1 (fun _ => 58) (fun _ => 0) (fun _ => 0) (fun _ => segs [.n 6 0, .n 6 0, .n 6 0]) (fun _ => segs [.n 6 0, .n 6 0, .n 6 0]) [0] (.inr ⟨rfl, by kernel_rfl⟩) (by kernel_rfl) rfl rfl rfl ?_ ?_)
  · refine GSteps.cons (gm_box 0 rfl (fun _ => rfl) (fun _ _ => rfl) (fun γ w h => ex_allocs (l := [.n 6 0, .n 6 0, .n 6 0]) zPG1) rfl rfl rfl) ?_
    exact GSteps.nil
  intro γ1 w1 hb1 hB1 _
  refine th_r ?_
  have A2 : SB 58 w1 (γ1 0) [.n 6 0, .n 6 0, .n 6 0] := (hB1 0 (by decide)).2
  have le2 := (hB1 0 (by decide)).1
  have HB3 := below_then (Below.refl w.heap.size w) hb1.out
  refine wp_seq (region_ms (F := fun _ => ⟨#[.pointer (some ⟨(γ1 0), 0, none⟩), nv 6 [1], sv [.n 6 0, .n 6 1, .n 6 0]], []⟩) 2 ((γ1 0)) 0 (segs [.n 6 0, .n 6 1, .n 6 0]) 0 (fun _ => 0) (fun _ => 0) (fun _ => 0) (fun _ => []) (fun _ => []) [1, 2] (.inr ⟨rfl, by kernel_rfl⟩) (by kernel_rfl) rfl rfl rfl ?_ ?_)
  · refine GSteps.cons (late_step (gm_val (v := nv 6 [1]) rfl (fun _ => rfl) (fun _ => rfl) (fun γ w h => ex_one rfl) rfl) (by kernel_rfl) rfl) ?_
    refine GSteps.cons (late_step (gm_val (v := sv [.n 6 0, .n 6 1, .n 6 0]) rfl (fun _ => rfl) (fun _ => rfl) (fun γ w h => ex_builds stPG1 (l := [.n 6 0, .n 6 1, .n 6 0]) (vs := [(1, nv 6 [1])]) rfl ((fills_cons 1 1 (m := [.n 6 1]) (z' := [.n 6 0, .n 6 1, .n 6 0]) rfl (nv_cells 6 [1]) rfl rfl rfl rfl).trans rfl)) rfl) (by kernel_rfl) rfl) ?_
    refine GSteps.cons (late_store rfl (fun _ => rfl) (fun γ w h => ex_stores 0 3 (l := [.n 6 0, .n 6 0, .n 6 0]) (m := [.n 6 0, .n 6 1, .n 6 0]) flPG1.2 rfl rfl rfl rfl (A2.keep h.out) rfl rfl) rfl) ?_
    exact GSteps.nil
  intro _ w4 w4_ hb4 _ _ hs4
  refine th_r ?_
  have A5 := A2.keep hb4.out
  have HB6 := below_then HB3 hb4.out
  have A7 := hs4.here 0 3 (l' := [.n 6 0, .n 6 1, .n 6 0]) A5 rfl rfl rfl
  have HB8 := hs4.below HB6 (Nat.le_trans (Nat.le_refl _) le2)
  exact wp_ret (bodyPost_ret (ret1 Try.results64 (res_sv rfl A7 flPG1 rfl)) rfl ⟨rfl, HB8⟩)

theorem onenowhere_t : sv [.n 6 0, .n 6 1, .n 6 0] = sv [.n 6 ((0 : Zp).val), .n 6 ((1 : Zp).val), .n 6 ((0 : Zp).val)] := by
  have h0 := zc0
  have h1 := zc1
  simp only [List.cons.injEq, and_true] at h0 h1
  rw [← h0, ← h1]

set_option maxRecDepth 20000 in
set_option maxHeartbeats 4000000 in
theorem onebring_inf (w : World) :
    Calls Try.prog 41 #[sv [.n 6 0, .n 6 0, .b true]] w (Is (sv [.n 6 0, .n 6 1, .n 6 0]) w) := by
  go_enter Try.func41, Try.ntmps41
  refine wp_seq (region_m (F := fun γ => ⟨#[sv [.n 6 0, .n 6 0, .b true], .pointer (some ⟨γ 0, 0, none⟩), .pointer (some ⟨γ 1, 0, none⟩), undef, undef, undef, undef, undef, undef, undef, undef, undef], []⟩) 2 (fun j_ => match j_ with | 0 => 26 | _ => 58) (fun j_ => match j_ with | 0 => 0 | _ => 1) (fun j_ => match j_ with | 0 => 0 | _ => 1) (fun j_ => match j_ with | 0 => segs [.n 6 0, .n 6 0, .b true] | _ => segs [.n 6 0, .n 6 0, .n 6 0]) (fun j_ => match j_ with | 0 => segs [.n 6 0, .n 6 0, .b true] | _ => segs [.n 6 0, .n 6 0, .n 6 0]) [1, 2] (.inr ⟨rfl, by kernel_rfl⟩) (by kernel_rfl) rfl rfl rfl ?_ ?_)
  · refine GSteps.cons (gm_box 0 rfl (fun _ => rfl) (fun _ _ => rfl) (fun γ w h => ex_boxs (l := [.n 6 0, .n 6 0, .b true]) rfl) rfl rfl rfl) ?_
    refine GSteps.cons (gm_box 1 rfl (fun _ => rfl) (fun _ _ => rfl) (fun γ w h => ex_allocs (l := [.n 6 0, .n 6 0, .n 6 0]) zPG1) rfl rfl rfl) ?_
    exact GSteps.nil
  intro γ1 w1 hb1 hB1 hn1
  refine th_r ?_
  have A2 : SB 26 w1 (γ1 0) [.n 6 0, .n 6 0, .b true] := (hB1 0 (by decide)).2
  have le2 := (hB1 0 (by decide)).1
  have A3 : SB 58 w1 (γ1 1) [.n 6 0, .n 6 0, .n 6 0] := (hB1 1 (by decide)).2
  have le3 := (hB1 1 (by decide)).1
  have HB4 := below_then (Below.refl w.heap.size w) hb1.out
  refine wp_seq ?_
  refine wp_seq (region_m (F := fun _ => ⟨#[sv [.n 6 0, .n 6 0, .b true], .pointer (some ⟨(γ1 0), 0, none⟩), .pointer (some ⟨(γ1 1), 0, none⟩), .pointer (some ⟨(γ1 0), 12, none⟩), .bool true, undef, undef, undef, undef, undef, undef, undef], []⟩) 0 (fun _ => 0) (fun _ => 0) (fun _ => 0) (fun _ => []) (fun _ => []) [3, 4] (.inr ⟨rfl, by kernel_rfl⟩) (by kernel_rfl) rfl rfl rfl ?_ ?_)
  · refine GSteps.cons (gm_valg (fun γ => .pointer (some ⟨(γ1 0), 12, none⟩)) rfl (fun _ => rfl) (fun _ => rfl) (fun γ w h => ex_field faG1_2 rfl) rfl) ?_
    refine GSteps.cons (gm_val (v := .bool true) rfl (fun _ => rfl) (fun _ => rfl) (fun γ w h => ex_load1 2 (s := .b true) (v := .bool true) sgBool rfl (A2.keep h.out) rfl rfl rfl) rfl) ?_
    exact GSteps.nil
  intro _ w5 hb5 _ _
  refine th_r ?_
  have A6 := A2.keep hb5.out
  have A7 := A3.keep hb5.out
  have HB8 := below_then HB4 hb5.out
  refine wp_cond_true rfl ?_
  refine wp_seq (region_ms (F := fun _ => ⟨#[sv [.n 6 0, .n 6 0, .b true], .pointer (some ⟨(γ1 0), 0, none⟩), .pointer (some ⟨(γ1 1), 0, none⟩), .pointer (some ⟨(γ1 0), 12, none⟩), .bool true, sv [.n 6 0, .n 6 1, .n 6 0], undef, undef, undef, undef, undef, undef], []⟩) 1 ((γ1 1)) 0 (segs [.n 6 0, .n 6 1, .n 6 0]) 0 (fun _ => 0) (fun _ => 0) (fun _ => 0) (fun _ => []) (fun _ => []) [5] (.inr ⟨rfl, by kernel_rfl⟩) (by kernel_rfl) rfl rfl rfl ?_ ?_)
  · refine GSteps.cons (late_step (gm_call (v := sv [.n 6 0, .n 6 1, .n 6 0]) rfl (fun _ => rfl) (fun _ => rfl) (fun γ w => ex_call (vs := []) rfl Try.call64 rfl) (fun w h => onenowhere_v _) rfl) (by kernel_rfl) rfl) ?_
    refine GSteps.cons (late_store rfl (fun _ => rfl) (fun γ w h => ex_stores 0 3 (l := [.n 6 0, .n 6 0, .n 6 0]) (m := [.n 6 0, .n 6 1, .n 6 0]) flPG1.2 rfl rfl rfl rfl (A7.keep h.out) rfl rfl) rfl) ?_
    exact GSteps.nil
  intro _ w9 w9_ hb9 _ _ hs9
  refine th_r ?_
  have A10 := A6.keep hb9.out
  have A11 := A7.keep hb9.out
  have HB12 := below_then HB8 hb9.out
  have A13 := hs9.other (hn1 0 1 (by decide) (by decide) (by decide)) A10
  have A14 := hs9.here 0 3 (l' := [.n 6 0, .n 6 1, .n 6 0]) A11 rfl rfl rfl
  have HB15 := hs9.below HB12 (Nat.le_trans (Nat.le_refl _) le3)
  exact wp_ret (th_ret (bodyPost_ret (ret1 Try.results41 (res_sv rfl A14 flPG1 rfl)) rfl ⟨rfl, HB15⟩))

set_option maxRecDepth 20000 in
set_option maxHeartbeats 4000000 in
theorem onebring_aff (x y : Zp) (w : World) :
    Calls Try.prog 41 #[sv [.n 6 x.val, .n 6 y.val, .b false]] w (Is (sv [.n 6 x.val, .n 6 y.val, .n 6 1]) w) := by
  go_enter Try.func41, Try.ntmps41
  refine wp_seq (region_m (F := fun γ => ⟨#[sv [.n 6 x.val, .n 6 y.val, .b false], .pointer (some ⟨γ 0, 0, none⟩), .pointer (some ⟨γ 1, 0, none⟩), undef, undef, undef, undef, undef, undef, undef, undef, undef], []⟩) 2 (fun j_ => match j_ with | 0 => 26 | _ => 58) (fun j_ => match j_ with | 0 => 0 | _ => 1) (fun j_ => match j_ with | 0 => 0 | _ => 1) (fun j_ => match j_ with | 0 => segs [.n 6 x.val, .n 6 y.val, .b false] | _ => segs [.n 6 0, .n 6 0, .n 6 0]) (fun j_ => match j_ with | 0 => segs [.n 6 x.val, .n 6 y.val, .b false] | _ => segs [.n 6 0, .n 6 0, .n 6 0]) [1, 2] (.inr ⟨rfl, by kernel_rfl⟩) (by kernel_rfl) rfl rfl rfl ?_ ?_)
  · refine GSteps.cons (gm_box 0 rfl (fun _ => rfl) (fun _ _ => rfl) (fun γ w h => ex_boxs (l := [.n 6 x.val, .n 6 y.val, .b false]) rfl) rfl rfl rfl) ?_
    refine GSteps.cons (gm_box 1 rfl (fun _ => rfl) (fun _ _ => rfl) (fun γ w h => ex_allocs (l := [.n 6 0, .n 6 0, .n 6 0]) zPG1) rfl rfl rfl) ?_
    exact GSteps.nil
  intro γ1 w1 hb1 hB1 hn1
  refine th_r ?_
  have A2 : SB 26 w1 (γ1 0) [.n 6 x.val, .n 6 y.val, .b false] := (hB1 0 (by decide)).2
  have le2 := (hB1 0 (by decide)).1
  have A3 : SB 58 w1 (γ1 1) [.n 6 0, .n 6 0, .n 6 0] := (hB1 1 (by decide)).2
  have le3 := (hB1 1 (by decide)).1
  have HB4 := below_then (Below.refl w.heap.size w) hb1.out
  refine wp_seq ?_
  refine wp_seq (region_m (F := fun _ => ⟨#[sv [.n 6 x.val, .n 6 y.val, .b false], .pointer (some ⟨(γ1 0), 0, none⟩), .pointer (some ⟨(γ1 1), 0, none⟩), .pointer (some ⟨(γ1 0), 12, none⟩), .bool false, undef, undef, undef, undef, undef, undef, undef], []⟩) 0 (fun _ => 0) (fun _ => 0) (fun _ => 0) (fun _ => []) (fun _ => []) [3, 4] (.inr ⟨rfl, by kernel_rfl⟩) (by kernel_rfl) rfl rfl rfl ?_ ?_)
  · refine GSteps.cons (gm_valg (fun γ => .pointer (some ⟨(γ1 0), 12, none⟩)) rfl (fun _ => rfl) (fun _ => rfl) (fun γ w h => ex_field faG1_2 rfl) rfl) ?_
    refine GSteps.cons (gm_val (v := .bool false) rfl (fun _ => rfl) (fun _ => rfl) (fun γ w h => ex_load1 2 (s := .b false) (v := .bool false) sgBool rfl (A2.keep h.out) rfl rfl rfl) rfl) ?_
    exact GSteps.nil
  intro _ w5 hb5 _ _
  refine th_r ?_
  have A6 := A2.keep hb5.out
  have A7 := A3.keep hb5.out
  have HB8 := below_then HB4 hb5.out
  refine wp_cond_false rfl ?_
  refine wp_skip ?_
  refine th_r ?_
  refine wp_seq (region_ms (F := fun _ => ⟨#[sv [.n 6 x.val, .n 6 y.val, .b false], .pointer (some ⟨(γ1 0), 0, none⟩), .pointer (some ⟨(γ1 1), 0, none⟩), .pointer (some ⟨(γ1 0), 12, none⟩), .bool false, undef, .pointer (some ⟨(γ1 0), 0, none⟩), nv 6 [x.val], .pointer (some ⟨(γ1 0), 6, none⟩), nv 6 [y.val], nv 6 [1], sv [.n 6 x.val, .n 6 y.val, .n 6 1]], []⟩) 6 ((γ1 1)) 0 (segs [.n 6 x.val, .n 6 y.val, .n 6 1]) 0 (fun _ => 0) (fun _ => 0) (fun _ => 0) (fun _ => []) (fun _ => []) [6, 7, 8, 9, 10, 11] (.inr ⟨rfl, by kernel_rfl⟩) (by kernel_rfl) rfl rfl rfl ?_ ?_)
  · refine GSteps.cons (late_step (gm_valg (fun γ => .pointer (some ⟨(γ1 0), 0, none⟩)) rfl (fun _ => rfl) (fun _ => rfl) (fun γ w h => ex_field faG1_0 rfl) rfl) (by kernel_rfl) rfl) ?_
    refine GSteps.cons (late_step (gm_val (v := nv 6 [x.val]) rfl (fun _ => rfl) (fun _ => rfl) (fun γ w h => ex_loadsn (K := 6) 0 1 (m := [x.val]) flFp rfl rfl (A6.keep h.out) rfl rfl) rfl) (by kernel_rfl) rfl) ?_
    refine GSteps.cons (late_step (gm_valg (fun γ => .pointer (some ⟨(γ1 0), 6, none⟩)) rfl (fun _ => rfl) (fun _ => rfl) (fun γ w h => ex_field faG1_1 rfl) rfl) (by kernel_rfl) rfl) ?_
    refine GSteps.cons (late_step (gm_val (v := nv 6 [y.val]) rfl (fun _ => rfl) (fun _ => rfl) (fun γ w h => ex_loadsn (K := 6) 1 1 (m := [y.val]) flFp rfl rfl (A6.keep h.out) rfl rfl) rfl) (by kernel_rfl) rfl) ?_
    refine GSteps.cons (late_step (gm_val (v := nv 6 [1]) rfl (fun _ => rfl) (fun _ => rfl) (fun γ w h => ex_one rfl) rfl) (by kernel_rfl) rfl) ?_
    refine GSteps.cons (late_step (gm_val (v := sv [.n 6 x.val, .n 6 y.val, .n 6 1]) rfl (fun _ => rfl) (fun _ => rfl) (fun γ w h => ex_builds stPG1 (l := [.n 6 x.val, .n 6 y.val, .n 6 1]) (vs := [(0, nv 6 [x.val]), (1, nv 6 [y.val]), (2, nv 6 [1])]) rfl ((fills_cons 0 1 (m := [.n 6 x.val]) (z' := [.n 6 x.val, .n 6 0, .n 6 0]) rfl (nv_cells 6 [x.val]) rfl rfl rfl rfl).trans ((fills_cons 1 1 (m := [.n 6 y.val]) (z' := [.n 6 x.val, .n 6 y.val, .n 6 0]) rfl (nv_cells 6 [y.val]) rfl rfl rfl rfl).trans ((fills_cons 2 1 (m := [.n 6 1]) (z' := [.n 6 x.val, .n 6 y.val, .n 6 1]) rfl (nv_cells 6 [1]) rfl rfl rfl rfl).trans rfl)))) rfl) (by kernel_rfl) rfl) ?_
    refine GSteps.cons (late_store rfl (fun _ => rfl) (fun γ w h => ex_stores 0 3 (l := [.n 6 0, .n 6 0, .n 6 0]) (m := [.n 6 x.val, .n 6 y.val, .n 6 1]) flPG1.2 rfl rfl rfl rfl (A7.keep h.out) rfl rfl) rfl) ?_
    exact GSteps.nil
  intro _ w9 w9_ hb9 _ _ hs9
  refine th_r ?_
  have A10 := A6.keep hb9.out
  have A11 := A7.keep hb9.out
  have HB12 := below_then HB8 hb9.out
  have A13 := hs9.other (hn1 0 1 (by decide) (by decide) (by decide)) A10
  have A14 := hs9.here 0 3 (l' := [.n 6 x.val, .n 6 y.val, .n 6 1]) A11 rfl rfl rfl
  have HB15 := hs9.below HB12 (Nat.le_trans (Nat.le_refl _) le3)
  exact wp_ret (bodyPost_ret (ret1 Try.results41 (res_sv rfl A14 flPG1 rfl)) rfl ⟨rfl, HB15⟩)

/-- What a point is brought in as. -/
def oneTri : Pt Zp → Tri Zp
  | .inf => ⟨0, 1, 0⟩
  | .aff x y => ⟨x, y, 1⟩
theorem oneTri_is (P : Pt Zp) : (oneTri P).Is P := by
  cases P with
  | inf => exact ⟨rfl, rfl, one_ne FdP⟩
  | aff x y => exact ⟨by show x = x * 1; grind, by show y = y * 1; grind, one_ne FdP⟩
theorem onebring_q (P : Pt Zp) (w : World) :
    Calls Try.prog 41 #[sv [.n 6 (ax P), .n 6 (ay P), .b (ai P)]] w (Is (sv [.n 6 (((oneTri P).x).val), .n 6 (((oneTri P).y).val), .n 6 (((oneTri P).z).val)]) w) := by
  cases P with
  | inf =>
    have h := onebring_inf w
    rw [onenowhere_t] at h
    exact h
  | aff x y =>
    have h := onebring_aff x y w
    have h1 := zc1
    simp only [List.cons.injEq, and_true] at h1
    rw [h1] at h
    exact h

set_option maxRecDepth 20000 in
set_option maxHeartbeats 4000000 in
theorem oneback_inf (t : Tri Zp) (hz : t.z = 0) (w : World) :
    Calls Try.prog 43 #[sv [.n 6 t.x.val, .n 6 t.y.val, .n 6 t.z.val]] w (Is (sv [.n 6 0, .n 6 0, .b true]) w) := by
  go_enter Try.func43, Try.ntmps43
  refine wp_seq (region_m (F := fun γ => ⟨#[sv [.n 6 t.x.val, .n 6 t.y.val, .n 6 t.z.val], .pointer (some ⟨γ 0, 0, none⟩), .pointer (some ⟨γ 1, 0, none⟩), undef, undef, undef, undef, undef, undef, undef, undef, undef, undef, undef, undef, undef, undef, undef, undef, undef, undef], []⟩) 2 (fun j_ => match j_ with | 0 => 58 | _ => 26) (fun j_ => match j_ with | 0 => 0 | _ => 1) (fun j_ => match j_ with | 0 => 0 | _ => 1) (fun j_ => match j_ with | 0 => segs [.n 6 t.x.val, .n 6 t.y.val, .n 6 t.z.val] | _ => segs [.n 6 0, .n 6 0, .b false]) (fun j_ => match j_ with | 0 => segs [.n 6 t.x.val, .n 6 t.y.val, .n 6 t.z.val] | _ => segs [.n 6 0, .n 6 0, .b false]) [1, 2] (.inr ⟨rfl, by kernel_rfl⟩) (by kernel_rfl) rfl rfl rfl ?_ ?_)
  · refine GSteps.cons (gm_box 0 rfl (fun _ => rfl) (fun _ _ => rfl) (fun γ w h => ex_boxs (l := [.n 6 t.x.val, .n 6 t.y.val, .n 6 t.z.val]) rfl) rfl rfl rfl) ?_
    refine GSteps.cons (gm_box 1 rfl (fun _ => rfl) (fun _ _ => rfl) (fun γ w h => ex_allocs (l := [.n 6 0, .n 6 0, .b false]) zG1) rfl rfl rfl) ?_
    exact GSteps.nil
  intro γ1 w1 hb1 hB1 hn1
  refine th_r ?_
  have A2 : SB 58 w1 (γ1 0) [.n 6 t.x.val, .n 6 t.y.val, .n 6 t.z.val] := (hB1 0 (by decide)).2
  have le2 := (hB1 0 (by decide)).1
  have A3 : SB 26 w1 (γ1 1) [.n 6 0, .n 6 0, .b false] := (hB1 1 (by decide)).2
  have le3 := (hB1 1 (by decide)).1
  have HB4 := below_then (Below.refl w.heap.size w) hb1.out
  refine wp_seq ?_
  refine wp_seq (region_m (F := fun _ => ⟨#[sv [.n 6 t.x.val, .n 6 t.y.val, .n 6 t.z.val], .pointer (some ⟨(γ1 0), 0, none⟩), .pointer (some ⟨(γ1 1), 0, none⟩), undef, .pointer (some ⟨(γ1 0), 12, none⟩), nv 6 [t.z.val], nv 6 [0], .bool true, undef, undef, undef, undef, undef, undef, undef, undef, undef, undef, undef, undef, undef], []⟩) 0 (fun _ => 0) (fun _ => 0) (fun _ => 0) (fun _ => []) (fun _ => []) [4, 5, 6, 7] (.inr ⟨rfl, by kernel_rfl⟩) (by kernel_rfl) rfl rfl rfl ?_ ?_)
  · refine GSteps.cons (gm_valg (fun γ => .pointer (some ⟨(γ1 0), 12, none⟩)) rfl (fun _ => rfl) (fun _ => rfl) (fun γ w h => ex_field faPG1_2 rfl) rfl) ?_
    refine GSteps.cons (gm_val (v := nv 6 [t.z.val]) rfl (fun _ => rfl) (fun _ => rfl) (fun γ w h => ex_loadsn (K := 6) 2 1 (m := [t.z.val]) flFp rfl rfl (A2.keep h.out) rfl rfl) rfl) ?_
    refine GSteps.cons (gm_val (v := nv 6 [0]) rfl (fun _ => rfl) (fun _ => rfl) (fun γ w h => ex_zero) rfl) ?_
    refine GSteps.cons (gm_val (v := .bool true) rfl (fun _ => rfl) (fun _ => rfl) (fun γ w h => ex_eqz t.z ((0 : Zp)) rfl zc0 rfl rfl true ⟨fun _ => hz, fun _ => rfl⟩) rfl) ?_
    exact GSteps.nil
  intro _ w5 hb5 _ _
  refine th_r ?_
  have A6 := A2.keep hb5.out
  have A7 := A3.keep hb5.out
  have HB8 := below_then HB4 hb5.out
  refine wp_cond_true rfl ?_
  refine wp_seq (region_ms (F := fun _ => ⟨#[sv [.n 6 t.x.val, .n 6 t.y.val, .n 6 t.z.val], .pointer (some ⟨(γ1 0), 0, none⟩), .pointer (some ⟨(γ1 1), 0, none⟩), undef, .pointer (some ⟨(γ1 0), 12, none⟩), nv 6 [t.z.val], nv 6 [0], .bool true, sv [.n 6 0, .n 6 0, .b true], undef, undef, undef, undef, undef, undef, undef, undef, undef, undef, undef, undef], []⟩) 1 ((γ1 1)) 0 (segs [.n 6 0, .n 6 0, .b true]) 0 (fun _ => 0) (fun _ => 0) (fun _ => 0) (fun _ => []) (fun _ => []) [8] (.inr ⟨rfl, by kernel_rfl⟩) (by kernel_rfl) rfl rfl rfl ?_ ?_)
  · refine GSteps.cons (late_step (gm_call (v := sv [.n 6 0, .n 6 0, .b true]) rfl (fun _ => rfl) (fun _ => rfl) (fun γ w => ex_call (vs := []) rfl Try.call14 rfl) (fun w h => oneZero_v _) rfl) (by kernel_rfl) rfl) ?_
    refine GSteps.cons (late_store rfl (fun _ => rfl) (fun γ w h => ex_stores 0 3 (l := [.n 6 0, .n 6 0, .b false]) (m := [.n 6 0, .n 6 0, .b true]) flG1.2 rfl rfl rfl rfl (A7.keep h.out) rfl rfl) rfl) ?_
    exact GSteps.nil
  intro _ w9 w9_ hb9 _ _ hs9
  refine th_r ?_
  have A10 := A6.keep hb9.out
  have A11 := A7.keep hb9.out
  have HB12 := below_then HB8 hb9.out
  have A13 := hs9.other (hn1 0 1 (by decide) (by decide) (by decide)) A10
  have A14 := hs9.here 0 3 (l' := [.n 6 0, .n 6 0, .b true]) A11 rfl rfl rfl
  have HB15 := hs9.below HB12 (Nat.le_trans (Nat.le_refl _) le3)
  exact wp_ret (th_ret (bodyPost_ret (ret1 Try.results43 (res_sv rfl A14 flG1 rfl)) rfl ⟨rfl, HB15⟩))

set_option maxRecDepth 20000 in
set_option maxHeartbeats 4000000 in
theorem oneback_aff (t : Tri Zp) (hz : t.z ≠ 0) (x y : Zp) (hx : x = t.x * FdP.inv t.z) (hy : y = t.y * FdP.inv t.z) (w : World) :
    Calls Try.prog 43 #[sv [.n 6 t.x.val, .n 6 t.y.val, .n 6 t.z.val]] w (Is (sv [.n 6 x.val, .n 6 y.val, .b false]) w) := by
  obtain ⟨z1, ez1⟩ : ∃ q_ : Zp, q_ = FdP.inv t.z := ⟨_, rfl⟩
  obtain ⟨z2, ez2⟩ : ∃ q_ : Zp, q_ = t.x * z1 := ⟨_, rfl⟩
  obtain ⟨z3, ez3⟩ : ∃ q_ : Zp, q_ = t.y * z1 := ⟨_, rfl⟩
  obtain rfl : z2 = x := by rw [hx, ez2, ez1]
  obtain rfl : z3 = y := by rw [hy, ez3, ez1]
  go_enter Try.func43, Try.ntmps43
  refine wp_seq (region_m (F := fun γ => ⟨#[sv [.n 6 t.x.val, .n 6 t.y.val, .n 6 t.z.val], .pointer (some ⟨γ 0, 0, none⟩), .pointer (some ⟨γ 1, 0, none⟩), undef, undef, undef, undef, undef, undef, undef, undef, undef, undef, undef, undef, undef, undef, undef, undef, undef, undef], []⟩) 2 (fun j_ => match j_ with | 0 => 58 | _ => 26) (fun j_ => match j_ with | 0 => 0 | _ => 1) (fun j_ => match j_ with | 0 => 0 | _ => 1) (fun j_ => match j_ with | 0 => segs [.n 6 t.x.val, .n 6 t.y.val, .n 6 t.z.val] | _ => segs [.n 6 0, .n 6 0, .b false]) (fun j_ => match j_ with | 0 => segs [.n 6 t.x.val, .n 6 t.y.val, .n 6 t.z.val] | _ => segs [.n 6 0, .n 6 0, .b false]) [1, 2] (.inr ⟨rfl, by kernel_rfl⟩) (by kernel_rfl) rfl rfl rfl ?_ ?_)
  · refine GSteps.cons (gm_box 0 rfl (fun _ => rfl) (fun _ _ => rfl) (fun γ w h => ex_boxs (l := [.n 6 t.x.val, .n 6 t.y.val, .n 6 t.z.val]) rfl) rfl rfl rfl) ?_
    refine GSteps.cons (gm_box 1 rfl (fun _ => rfl) (fun _ _ => rfl) (fun γ w h => ex_allocs (l := [.n 6 0, .n 6 0, .b false]) zG1) rfl rfl rfl) ?_
    exact GSteps.nil
  intro γ1 w1 hb1 hB1 hn1
  refine th_r ?_
  have A2 : SB 58 w1 (γ1 0) [.n 6 t.x.val, .n 6 t.y.val, .n 6 t.z.val] := (hB1 0 (by decide)).2
  have le2 := (hB1 0 (by decide)).1
  have A3 : SB 26 w1 (γ1 1) [.n 6 0, .n 6 0, .b false] := (hB1 1 (by decide)).2
  have le3 := (hB1 1 (by decide)).1
  have HB4 := below_then (Below.refl w.heap.size w) hb1.out
  refine wp_seq ?_
  refine wp_seq (region_m (F := fun _ => ⟨#[sv [.n 6 t.x.val, .n 6 t.y.val, .n 6 t.z.val], .pointer (some ⟨(γ1 0), 0, none⟩), .pointer (some ⟨(γ1 1), 0, none⟩), undef, .pointer (some ⟨(γ1 0), 12, none⟩), nv 6 [t.z.val], nv 6 [0], .bool false, undef, undef, undef, undef, undef, undef, undef, undef, undef, undef, undef, undef, undef], []⟩) 0 (fun _ => 0) (fun _ => 0) (fun _ => 0) (fun _ => []) (fun _ => []) [4, 5, 6, 7] (.inr ⟨rfl, by kernel_rfl⟩) (by kernel_rfl) rfl rfl rfl ?_ ?_)
  · refine GSteps.cons (gm_valg (fun γ => .pointer (some ⟨(γ1 0), 12, none⟩)) rfl (fun _ => rfl) (fun _ => rfl) (fun γ w h => ex_field faPG1_2 rfl) rfl) ?_
    refine GSteps.cons (gm_val (v := nv 6 [t.z.val]) rfl (fun _ => rfl) (fun _ => rfl) (fun γ w h => ex_loadsn (K := 6) 2 1 (m := [t.z.val]) flFp rfl rfl (A2.keep h.out) rfl rfl) rfl) ?_
    refine GSteps.cons (gm_val (v := nv 6 [0]) rfl (fun _ => rfl) (fun _ => rfl) (fun γ w h => ex_zero) rfl) ?_
    refine GSteps.cons (gm_val (v := .bool false) rfl (fun _ => rfl) (fun _ => rfl) (fun γ w h => ex_eqz t.z ((0 : Zp)) rfl zc0 rfl rfl false ⟨fun e => Bool.noConfusion e, fun e => absurd e hz⟩) rfl) ?_
    exact GSteps.nil
  intro _ w5 hb5 _ _
  refine th_r ?_
  have A6 := A2.keep hb5.out
  have A7 := A3.keep hb5.out
  have HB8 := below_then HB4 hb5.out
  refine wp_cond_false rfl ?_
  refine wp_skip ?_
  refine th_r ?_
  refine wp_seq (region_m (F := fun γ => ⟨#[sv [.n 6 t.x.val, .n 6 t.y.val, .n 6 t.z.val], .pointer (some ⟨(γ1 0), 0, none⟩), .pointer (some ⟨(γ1 1), 0, none⟩), .pointer (some ⟨γ 0, 0, none⟩), .pointer (some ⟨(γ1 0), 12, none⟩), nv 6 [t.z.val], nv 6 [0], .bool false, undef, .pointer (some ⟨(γ1 0), 12, none⟩), nv 6 [t.z.val], nv 6 [z1.val], undef, undef, undef, undef, undef, undef, undef, undef, undef], []⟩) 1 (fun _ => 24) (fun _ => 3) (fun _ => 4) (fun _ => segs [.n 6 0]) (fun _ => segs [.n 6 z1.val]) [9, 10, 11, 3] (.inr ⟨rfl, by kernel_rfl⟩) (by kernel_rfl) rfl rfl rfl ?_ ?_)
  · refine GSteps.cons (gm_valg (fun γ => .pointer (some ⟨(γ1 0), 12, none⟩)) rfl (fun _ => rfl) (fun _ => rfl) (fun γ w h => ex_field faPG1_2 rfl) rfl) ?_
    refine GSteps.cons (gm_val (v := nv 6 [t.z.val]) rfl (fun _ => rfl) (fun _ => rfl) (fun γ w h => ex_loadsn (K := 6) 2 1 (m := [t.z.val]) flFp rfl rfl (A6.keep h.out) rfl rfl) rfl) ?_
    refine GSteps.cons (gm_call (v := nv 6 [z1.val]) rfl (fun _ => rfl) (fun _ => rfl) (fun γ w => ex_call (vs := [nv 6 [t.z.val]]) rfl Try.call67 rfl) (fun w h => fpInv_e t.z z1 rfl ez1 _) rfl) ?_
    refine GSteps.cons (gm_new 0 rfl (fun _ => rfl) (fun _ _ => rfl) (fun γ w => ex_allocsn (K := 6) (l := [0]) zFp) rfl (by kernel_rfl)) ?_
    refine GSteps.cons (gm_store 0 rfl rfl (fun _ => rfl) (len_segs (l := [.n 6 z1.val]) (l' := [.n 6 0]) rfl) (fun γ w h => ex_stores 0 1 (l := [.n 6 0]) (m := [.n 6 z1.val]) flFp.2 rfl rfl rfl (nv_cells 6 [z1.val]) h rfl rfl) rfl rfl (by kernel_rfl)) ?_
    exact GSteps.nil
  intro γ9 w9 hb9 hB9 _
  refine th_r ?_
  have A10 := A6.keep hb9.out
  have A11 := A7.keep hb9.out
  have A12 : SB 24 w9 (γ9 0) [.n 6 z1.val] := (hB9 0 (by decide)).2
  have le12 := (hB9 0 (by decide)).1
  have HB13 := below_then HB8 hb9.out
  refine wp_seq (region_ms (F := fun _ => ⟨#[sv [.n 6 t.x.val, .n 6 t.y.val, .n 6 t.z.val], .pointer (some ⟨(γ1 0), 0, none⟩), .pointer (some ⟨(γ1 1), 0, none⟩), .pointer (some ⟨(γ9 0), 0, none⟩), .pointer (some ⟨(γ1 0), 12, none⟩), nv 6 [t.z.val], nv 6 [0], .bool false, undef, .pointer (some ⟨(γ1 0), 12, none⟩), nv 6 [t.z.val], nv 6 [z1.val], .pointer (some ⟨(γ1 0), 0, none⟩), nv 6 [t.x.val], nv 6 [z1.val], nv 6 [z2.val], .pointer (some ⟨(γ1 0), 6, none⟩), nv 6 [t.y.val], nv 6 [z1.val], nv 6 [z3.val], sv [.n 6 z2.val, .n 6 z3.val, .b false]], []⟩) 9 ((γ1 1)) 0 (segs [.n 6 z2.val, .n 6 z3.val, .b false]) 0 (fun _ => 0) (fun _ => 0) (fun _ => 0) (fun _ => []) (fun _ => []) [12, 13, 14, 15, 16, 17, 18, 19, 20] (.inl ⟨rfl, by kernel_rfl⟩) (by kernel_rfl) rfl rfl rfl ?_ ?_)
  · refine GSteps.cons (late_step (gm_valg (fun γ => .pointer (some ⟨(γ1 0), 0, none⟩)) rfl (fun _ => rfl) (fun _ => rfl) (fun γ w h => ex_field faPG1_0 rfl) rfl) (by kernel_rfl) rfl) ?_
    refine GSteps.cons (late_step (gm_val (v := nv 6 [t.x.val]) rfl (fun _ => rfl) (fun _ => rfl) (fun γ w h => ex_loadsn (K := 6) 0 1 (m := [t.x.val]) flFp rfl rfl (A10.keep h.out) rfl rfl) rfl) (by kernel_rfl) rfl) ?_
    refine GSteps.cons (late_step (gm_val (v := nv 6 [z1.val]) rfl (fun _ => rfl) (fun _ => rfl) (fun γ w h => ex_loadsn (K := 6) 0 1 (m := [z1.val]) flFp rfl rfl (A12.keep h.out) rfl rfl) rfl) (by kernel_rfl) rfl) ?_
    refine GSteps.cons (late_step (gm_call (v := nv 6 [z2.val]) rfl (fun _ => rfl) (fun _ => rfl) (fun γ w => ex_call (vs := [nv 6 [t.x.val], nv 6 [z1.val]]) rfl Try.call59 rfl) (fun w h => fpMul_e t.x z1 z2 rfl rfl ez2 _) rfl) (by kernel_rfl) rfl) ?_
    refine GSteps.cons (late_step (gm_valg (fun γ => .pointer (some ⟨(γ1 0), 6, none⟩)) rfl (fun _ => rfl) (fun _ => rfl) (fun γ w h => ex_field faPG1_1 rfl) rfl) (by kernel_rfl) rfl) ?_
    refine GSteps.cons (late_step (gm_val (v := nv 6 [t.y.val]) rfl (fun _ => rfl) (fun _ => rfl) (fun γ w h => ex_loadsn (K := 6) 1 1 (m := [t.y.val]) flFp rfl rfl (A10.keep h.out) rfl rfl) rfl) (by kernel_rfl) rfl) ?_
    refine GSteps.cons (late_step (gm_val (v := nv 6 [z1.val]) rfl (fun _ => rfl) (fun _ => rfl) (fun γ w h => ex_loadsn (K := 6) 0 1 (m := [z1.val]) flFp rfl rfl (A12.keep h.out) rfl rfl) rfl) (by kernel_rfl) rfl) ?_
    refine GSteps.cons (late_step (gm_call (v := nv 6 [z3.val]) rfl (fun _ => rfl) (fun _ => rfl) (fun γ w => ex_call (vs := [nv 6 [t.y.val], nv 6 [z1.val]]) rfl Try.call59 rfl) (fun w h => fpMul_e t.y z1 z3 rfl rfl ez3 _) rfl) (by kernel_rfl) rfl) ?_
    refine GSteps.cons (late_step (gm_val (v := sv [.n 6 z2.val, .n 6 z3.val, .b false]) rfl (fun _ => rfl) (fun _ => rfl) (fun γ w h => ex_builds stG1 (l := [.n 6 z2.val, .n 6 z3.val, .b false]) (vs := [(0, nv 6 [z2.val]), (1, nv 6 [z3.val])]) rfl ((fills_cons 0 1 (m := [.n 6 z2.val]) (z' := [.n 6 z2.val, .n 6 0, .b false]) rfl (nv_cells 6 [z2.val]) rfl rfl rfl rfl).trans ((fills_cons 1 1 (m := [.n 6 z3.val]) (z' := [.n 6 z2.val, .n 6 z3.val, .b false]) rfl (nv_cells 6 [z3.val]) rfl rfl rfl rfl).trans rfl))) rfl) (by kernel_rfl) rfl) ?_
    refine GSteps.cons (late_store rfl (fun _ => rfl) (fun γ w h => ex_stores 0 3 (l := [.n 6 0, .n 6 0, .b false]) (m := [.n 6 z2.val, .n 6 z3.val, .b false]) flG1.2 rfl rfl rfl rfl (A11.keep h.out) rfl rfl) rfl) ?_
    exact GSteps.nil
  intro _ w14 w14_ hb14 _ _ hs14
  refine th_r ?_
  have A15 := A10.keep hb14.out
  have A16 := A11.keep hb14.out
  have A17 := A12.keep hb14.out
  have HB18 := below_then HB13 hb14.out
  have A19 := hs14.other (hn1 0 1 (by decide) (by decide) (by decide)) A15
  have A20 := hs14.here 0 3 (l' := [.n 6 z2.val, .n 6 z3.val, .b false]) A16 rfl rfl rfl
  have A21 := hs14.other (Ne.symm (Nat.ne_of_lt (Nat.lt_of_lt_of_le A7.lt le12))) A17
  have HB22 := hs14.below HB18 (Nat.le_trans (Nat.le_refl _) le3)
  exact wp_ret (bodyPost_ret (ret1 Try.results43 (res_sv rfl A20 flG1 rfl)) rfl ⟨rfl, HB22⟩)

theorem oneback_q {t : Tri Zp} {P : Pt Zp} (h : t.Is P) (w : World) :
    Calls Try.prog 43 #[sv [.n 6 t.x.val, .n 6 t.y.val, .n 6 t.z.val]] w (Is (sv [.n 6 (ax P), .n 6 (ay P), .b (ai P)]) w) := by
  rcases back_ok FdP h with ⟨h1, rfl⟩ | ⟨h1, hP⟩
  · exact oneback_inf t h1 w
  · obtain ⟨x, hx⟩ : ∃ x, x = t.x * FdP.inv t.z := ⟨_, rfl⟩
    obtain ⟨y, hy⟩ : ∃ y, y = t.y * FdP.inv t.z := ⟨_, rfl⟩
    rw [← hx, ← hy] at hP
    subst hP
    exact oneback_aff t h1 x y hx hy w

set_option maxRecDepth 20000 in
set_option maxHeartbeats 4000000 in
theorem oneRight_inf (w : World) :
    Calls Try.prog 11 #[sv [.n 6 0, .n 6 0, .b true]] w (Is (.bool true) w) := by
  go_enter Try.func11, Try.ntmps11
  refine wp_seq (region_m (F := fun γ => ⟨#[sv [.n 6 0, .n 6 0, .b true], .pointer (some ⟨γ 0, 0, none⟩), .bool false, undef, undef, undef, undef, undef, undef, undef, undef, undef, undef, undef, undef, undef, undef, undef, undef, undef, undef, undef, undef], []⟩) 1 (fun _ => 26) (fun _ => 0) (fun _ => 0) (fun _ => segs [.n 6 0, .n 6 0, .b true]) (fun _ => segs [.n 6 0, .n 6 0, .b true]) [1, 2] (.inr ⟨rfl, by kernel_rfl⟩) (by kernel_rfl) rfl rfl rfl ?_ ?_)
  · refine GSteps.cons (gm_box 0 rfl (fun _ => rfl) (fun _ _ => rfl) (fun γ w h => ex_boxs (l := [.n 6 0, .n 6 0, .b true]) rfl) rfl rfl rfl) ?_
    refine GSteps.cons (gm_val (v := .bool false) rfl (fun _ => rfl) (fun _ => rfl) (fun γ w h => ex_assign _) rfl) ?_
    exact GSteps.nil
  intro γ1 w1 hb1 hB1 _
  refine th_r ?_
  have A2 : SB 26 w1 (γ1 0) [.n 6 0, .n 6 0, .b true] := (hB1 0 (by decide)).2
  have le2 := (hB1 0 (by decide)).1
  have HB3 := below_then (Below.refl w.heap.size w) hb1.out
  refine wp_seq ?_
  refine wp_seq (region_m (F := fun _ => ⟨#[sv [.n 6 0, .n 6 0, .b true], .pointer (some ⟨(γ1 0), 0, none⟩), .bool false, .pointer (some ⟨(γ1 0), 12, none⟩), .bool true, undef, undef, undef, undef, undef, undef, undef, undef, undef, undef, undef, undef, undef, undef, undef, undef, undef, undef], []⟩) 0 (fun _ => 0) (fun _ => 0) (fun _ => 0) (fun _ => []) (fun _ => []) [3, 4] (.inr ⟨rfl, by kernel_rfl⟩) (by kernel_rfl) rfl rfl rfl ?_ ?_)
  · refine GSteps.cons (gm_valg (fun γ => .pointer (some ⟨(γ1 0), 12, none⟩)) rfl (fun _ => rfl) (fun _ => rfl) (fun γ w h => ex_field faG1_2 rfl) rfl) ?_
    refine GSteps.cons (gm_val (v := .bool true) rfl (fun _ => rfl) (fun _ => rfl) (fun γ w h => ex_load1 2 (s := .b true) (v := .bool true) sgBool rfl (A2.keep h.out) rfl rfl rfl) rfl) ?_
    exact GSteps.nil
  intro _ w4 hb4 _ _
  refine th_r ?_
  have A5 := A2.keep hb4.out
  have HB6 := below_then HB3 hb4.out
  refine wp_cond_true rfl ?_
  refine wp_seq (region_m (F := fun _ => ⟨#[sv [.n 6 0, .n 6 0, .b true], .pointer (some ⟨(γ1 0), 0, none⟩), .bool true, .pointer (some ⟨(γ1 0), 12, none⟩), .bool true, sv [.n 6 0, .n 6 0, .b true], sv [.n 6 0, .n 6 0, .b true], .bool true, undef, undef, undef, undef, undef, undef, undef, undef, undef, undef, undef, undef, undef, undef, undef], []⟩) 0 (fun _ => 0) (fun _ => 0) (fun _ => 0) (fun _ => []) (fun _ => []) [5, 6, 7, 2] (.inl ⟨rfl, by kernel_rfl⟩) (by kernel_rfl) rfl rfl rfl ?_ ?_)
  · refine GSteps.cons (gm_val (v := sv [.n 6 0, .n 6 0, .b true]) rfl (fun _ => rfl) (fun _ => rfl) (fun γ w h => ex_loads 0 3 (m := [.n 6 0, .n 6 0, .b true]) flG1 rfl rfl (A5.keep h.out) rfl rfl) rfl) ?_
    refine GSteps.cons (gm_call (v := sv [.n 6 0, .n 6 0, .b true]) rfl (fun _ => rfl) (fun _ => rfl) (fun γ w => ex_call (vs := []) rfl Try.call14 rfl) (fun w h => oneZero_v _) rfl) ?_
    refine GSteps.cons (gm_val (v := .bool true) rfl (fun _ => rfl) (fun _ => rfl) (fun γ w h => ex_eqs gdG1 eqG1 rfl rfl rfl (shG1_of zero_B zero_B) (shG1_of zero_B zero_B) true (by simp)) rfl) ?_
    refine GSteps.cons (gm_val (v := .bool true) rfl (fun _ => rfl) (fun _ => rfl) (fun γ w h => ex_assign _) rfl) ?_
    exact GSteps.nil
  intro _ w7 hb7 _ _
  refine th_r ?_
  have A8 := A5.keep hb7.out
  have HB9 := below_then HB6 hb7.out
  exact wp_ret (th_ret (bodyPost_ret (ret1 Try.results11 (res_tmp rfl)) rfl ⟨rfl, HB9⟩))

set_option maxRecDepth 20000 in
set_option maxHeartbeats 4000000 in
theorem r8Right_inf (w : World) :
    Calls Try.prog 9 #[sv [.n 6 0, .n 6 0, .b true]] w (Is (.bool true) w) := by
  go_enter Try.func9, Try.ntmps9
  refine wp_seq (region_m (F := fun γ => ⟨List.toArray ((sv [.n 6 0, .n 6 0, .b true]) :: (.pointer (some ⟨γ 0, 0, none⟩)) :: (.bool false) :: undef :: undef :: undef :: undef :: undef :: undef :: undef :: undef :: undef :: undef :: undef :: undef :: undef :: undef :: undef :: undef :: undef :: undef :: undef :: undef :: undef :: undef :: undef :: undef :: undef :: undef :: undef :: undef :: undef :: undef :: undef :: undef :: undef :: undef :: undef :: undef :: undef :: []), []⟩) 1 (fun _ => 26) (fun _ => 0) (fun _ => 0) (fun _ => segs [.n 6 0, .n 6 0, .b true]) (fun _ => segs [.n 6 0, .n 6 0, .b true]) [1, 2] (.inr ⟨rfl, by kernel_rfl⟩) (by kernel_rfl) rfl rfl rfl ?_ ?_)
  · refine GSteps.cons (gm_box 0 rfl (fun _ => rfl) (fun _ _ => rfl) (fun γ w h => ex_boxs (l := [.n 6 0, .n 6 0, .b true]) rfl) rfl rfl rfl) ?_
    refine GSteps.cons (gm_val (v := .bool false) rfl (fun _ => rfl) (fun _ => rfl) (fun γ w h => ex_assign _) rfl) ?_
    exact GSteps.nil
  intro γ1 w1 hb1 hB1 _
  refine th_r ?_
  have A2 : SB 26 w1 (γ1 0) [.n 6 0, .n 6 0, .b true] := (hB1 0 (by decide)).2
  have le2 := (hB1 0 (by decide)).1
  have HB3 := below_then (Below.refl w.heap.size w) hb1.out
  refine wp_seq ?_
  refine wp_seq (region_m (F := fun _ => ⟨List.toArray ((sv [.n 6 0, .n 6 0, .b true]) :: (.pointer (some ⟨(γ1 0), 0, none⟩)) :: (.bool false) :: undef :: (.pointer (some ⟨(γ1 0), 12, none⟩)) :: (.bool true) :: undef :: undef :: undef :: undef :: undef :: undef :: undef :: undef :: undef :: undef :: undef :: undef :: undef :: undef :: undef :: undef :: undef :: undef :: undef :: undef :: undef :: undef :: undef :: undef :: undef :: undef :: undef :: undef :: undef :: undef :: undef :: undef :: undef :: undef :: []), []⟩) 0 (fun _ => 0) (fun _ => 0) (fun _ => 0) (fun _ => []) (fun _ => []) [4, 5] (.inr ⟨rfl, by kernel_rfl⟩) (by kernel_rfl) rfl rfl rfl ?_ ?_)
  · refine GSteps.cons (gm_valg (fun γ => .pointer (some ⟨(γ1 0), 12, none⟩)) rfl (fun _ => rfl) (fun _ => rfl) (fun γ w h => ex_field faG1_2 rfl) rfl) ?_
    refine GSteps.cons (gm_val (v := .bool true) rfl (fun _ => rfl) (fun _ => rfl) (fun γ w h => ex_load1 2 (s := .b true) (v := .bool true) sgBool rfl (A2.keep h.out) rfl rfl rfl) rfl) ?_
    exact GSteps.nil
  intro _ w4 hb4 _ _
  refine th_r ?_
  have A5 := A2.keep hb4.out
  have HB6 := below_then HB3 hb4.out
  refine wp_cond_true rfl ?_
  refine wp_seq (region_m (F := fun _ => ⟨List.toArray ((sv [.n 6 0, .n 6 0, .b true]) :: (.pointer (some ⟨(γ1 0), 0, none⟩)) :: (.bool true) :: undef :: (.pointer (some ⟨(γ1 0), 12, none⟩)) :: (.bool true) :: (sv [.n 6 0, .n 6 0, .b true]) :: (sv [.n 6 0, .n 6 0, .b true]) :: (.bool true) :: undef :: undef :: undef :: undef :: undef :: undef :: undef :: undef :: undef :: undef :: undef :: undef :: undef :: undef :: undef :: undef :: undef :: undef :: undef :: undef :: undef :: undef :: undef :: undef :: undef :: undef :: undef :: undef :: undef :: undef :: undef :: []), []⟩) 0 (fun _ => 0) (fun _ => 0) (fun _ => 0) (fun _ => []) (fun _ => []) [6, 7, 8, 2] (.inr ⟨rfl, by kernel_rfl⟩) (by kernel_rfl) rfl rfl rfl ?_ ?_)
  · refine GSteps.cons (gm_val (v := sv [.n 6 0, .n 6 0, .b true]) rfl (fun _ => rfl) (fun _ => rfl) (fun γ w h => ex_loads 0 3 (m := [.n 6 0, .n 6 0, .b true]) flG1 rfl rfl (A5.keep h.out) rfl rfl) rfl) ?_
    refine GSteps.cons (gm_val (v := sv [.n 6 0, .n 6 0, .b true]) rfl (fun _ => rfl) (fun _ => rfl) (fun γ w h => ex_builds stG1 (l := [.n 6 0, .n 6 0, .b true]) (vs := [(2, .bool true)]) rfl ((fills_cons 2 1 (m := [.b true]) (z' := [.n 6 0, .n 6 0, .b true]) rfl (bool_cells true) rfl rfl rfl rfl).trans rfl)) rfl) ?_
    refine GSteps.cons (gm_val (v := .bool true) rfl (fun _ => rfl) (fun _ => rfl) (fun γ w h => ex_eqs gdG1 eqG1 rfl rfl rfl (shG1_of zero_B zero_B) (shG1_of zero_B zero_B) true (by simp)) rfl) ?_
    refine GSteps.cons (gm_val (v := .bool true) rfl (fun _ => rfl) (fun _ => rfl) (fun γ w h => ex_assign _) rfl) ?_
    exact GSteps.nil
  intro _ w7 hb7 _ _
  refine th_r ?_
  have A8 := A5.keep hb7.out
  have HB9 := below_then HB6 hb7.out
  exact wp_ret (th_ret (bodyPost_ret (ret1 Try.results9 (res_tmp rfl)) rfl ⟨rfl, HB9⟩))

set_option maxRecDepth 20000 in
set_option maxHeartbeats 4000000 in
theorem r8Right_rawinf (x : Nat) (y : Nat) (hx : x < fpB) (hy : y < fpB) (h0 : ¬ (x = 0 ∧ y = 0)) (w : World) :
    Calls Try.prog 9 #[sv [.n 6 x, .n 6 y, .b true]] w (Is (.bool false) w) := by
  go_enter Try.func9, Try.ntmps9
  refine wp_seq (region_m (F := fun γ => ⟨List.toArray ((sv [.n 6 x, .n 6 y, .b true]) :: (.pointer (some ⟨γ 0, 0, none⟩)) :: (.bool false) :: undef :: undef :: undef :: undef :: undef :: undef :: undef :: undef :: undef :: undef :: undef :: undef :: undef :: undef :: undef :: undef :: undef :: undef :: undef :: undef :: undef :: undef :: undef :: undef :: undef :: undef :: undef :: undef :: undef :: undef :: undef :: undef :: undef :: undef :: undef :: undef :: undef :: []), []⟩) 1 (fun _ => 26) (fun _ => 0) (fun _ => 0) (fun _ => segs [.n 6 x, .n 6 y, .b true]) (fun _ => segs [.n 6 x, .n 6 y, .b true]) [1, 2] (.inr ⟨rfl, by kernel_rfl⟩) (by kernel_rfl) rfl rfl rfl ?_ ?_)
  · refine GSteps.cons (gm_box 0 rfl (fun _ => rfl) (fun _ _ => rfl) (fun γ w h => ex_boxs (l := [.n 6 x, .n 6 y, .b true]) rfl) rfl rfl rfl) ?_
    refine GSteps.cons (gm_val (v := .bool false) rfl (fun _ => rfl) (fun _ => rfl) (fun γ w h => ex_assign _) rfl) ?_
    exact GSteps.nil
  intro γ1 w1 hb1 hB1 _
  refine th_r ?_
  have A2 : SB 26 w1 (γ1 0) [.n 6 x, .n 6 y, .b true] := (hB1 0 (by decide)).2
  have le2 := (hB1 0 (by decide)).1
  have HB3 := below_then (Below.refl w.heap.size w) hb1.out
  refine wp_seq ?_
  refine wp_seq (region_m (F := fun _ => ⟨List.toArray ((sv [.n 6 x, .n 6 y, .b true]) :: (.pointer (some ⟨(γ1 0), 0, none⟩)) :: (.bool false) :: undef :: (.pointer (some ⟨(γ1 0), 12, none⟩)) :: (.bool true) :: undef :: undef :: undef :: undef :: undef :: undef :: undef :: undef :: undef :: undef :: undef :: undef :: undef :: undef :: undef :: undef :: undef :: undef :: undef :: undef :: undef :: undef :: undef :: undef :: undef :: undef :: undef :: undef :: undef :: undef :: undef :: undef :: undef :: undef :: []), []⟩) 0 (fun _ => 0) (fun _ => 0) (fun _ => 0) (fun _ => []) (fun _ => []) [4, 5] (.inr ⟨rfl, by kernel_rfl⟩) (by kernel_rfl) rfl rfl rfl ?_ ?_)
  · refine GSteps.cons (gm_valg (fun γ => .pointer (some ⟨(γ1 0), 12, none⟩)) rfl (fun _ => rfl) (fun _ => rfl) (fun γ w h => ex_field faG1_2 rfl) rfl) ?_
    refine GSteps.cons (gm_val (v := .bool true) rfl (fun _ => rfl) (fun _ => rfl) (fun γ w h => ex_load1 2 (s := .b true) (v := .bool true) sgBool rfl (A2.keep h.out) rfl rfl rfl) rfl) ?_
    exact GSteps.nil
  intro _ w4 hb4 _ _
  refine th_r ?_
  have A5 := A2.keep hb4.out
  have HB6 := below_then HB3 hb4.out
  refine wp_cond_true rfl ?_
  refine wp_seq (region_m (F := fun _ => ⟨List.toArray ((sv [.n 6 x, .n 6 y, .b true]) :: (.pointer (some ⟨(γ1 0), 0, none⟩)) :: (.bool false) :: undef :: (.pointer (some ⟨(γ1 0), 12, none⟩)) :: (.bool true) :: (sv [.n 6 x, .n 6 y, .b true]) :: (sv [.n 6 0, .n 6 0, .b true]) :: (.bool false) :: undef :: undef :: undef :: undef :: undef :: undef :: undef :: undef :: undef :: undef :: undef :: undef :: undef :: undef :: undef :: undef :: undef :: undef :: undef :: undef :: undef :: undef :: undef :: undef :: undef :: undef :: undef :: undef :: undef :: undef :: undef :: []), []⟩) 0 (fun _ => 0) (fun _ => 0) (fun _ => 0) (fun _ => []) (fun _ => []) [6, 7, 8, 2] (.inr ⟨rfl, by kernel_rfl⟩) (by kernel_rfl) rfl rfl rfl ?_ ?_)
  · refine GSteps.cons (gm_val (v := sv [.n 6 x, .n 6 y, .b true]) rfl (fun _ => rfl) (fun _ => rfl) (fun γ w h => ex_loads 0 3 (m := [.n 6 x, .n 6 y, .b true]) flG1 rfl rfl (A5.keep h.out) rfl rfl) rfl) ?_
    refine GSteps.cons (gm_val (v := sv [.n 6 0, .n 6 0, .b true]) rfl (fun _ => rfl) (fun _ => rfl) (fun γ w h => ex_builds stG1 (l := [.n 6 0, .n 6 0, .b true]) (vs := [(2, .bool true)]) rfl ((fills_cons 2 1 (m := [.b true]) (z' := [.n 6 0, .n 6 0, .b true]) rfl (bool_cells true) rfl rfl rfl rfl).trans rfl)) rfl) ?_
    refine GSteps.cons (gm_val (v := .bool false) rfl (fun _ => rfl) (fun _ => rfl) (fun γ w h => ex_eqs gdG1 eqG1 rfl rfl rfl (shG1_of hx hy) (shG1_of zero_B zero_B) false ⟨fun e => Bool.noConfusion e, fun e => absurd (by simpa using e) h0⟩) rfl) ?_
    refine GSteps.cons (gm_val (v := .bool false) rfl (fun _ => rfl) (fun _ => rfl) (fun γ w h => ex_assign _) rfl) ?_
    exact GSteps.nil
  intro _ w7 hb7 _ _
  refine th_r ?_
  have A8 := A5.keep hb7.out
  have HB9 := below_then HB6 hb7.out
  exact wp_ret (th_ret (bodyPost_ret (ret1 Try.results9 (res_tmp rfl)) rfl ⟨rfl, HB9⟩))

set_option maxRecDepth 20000 in
set_option maxHeartbeats 4000000 in
theorem onemeets_v (x y : Zp) (r : Bool) (hr : r = true ↔ y * y = x * x * x + 4) (w : World) :
    Calls Try.prog 32 #[nv 6 [x.val], nv 6 [y.val]] w (Is (.bool r) w) := by
  obtain ⟨z1, ez1⟩ : ∃ q_ : Zp, q_ = x * x := ⟨_, rfl⟩
  obtain ⟨z2, ez2⟩ : ∃ q_ : Zp, q_ = z1 * x := ⟨_, rfl⟩
  obtain ⟨z3, ez3⟩ : ∃ q_ : Zp, q_ = y * y := ⟨_, rfl⟩
  obtain ⟨z4, ez4⟩ : ∃ q_ : Zp, q_ = z2 + ((4 : Zp)) := ⟨_, rfl⟩
  go_enter Try.func32, Try.ntmps32
  refine wp_seq (region_m (F := fun γ => ⟨#[nv 6 [x.val], nv 6 [y.val], .pointer (some ⟨γ 0, 0, none⟩), .pointer (some ⟨γ 1, 0, none⟩), .bool false, undef, undef, undef, undef, undef, undef, undef, undef, undef, undef, undef, undef, undef], []⟩) 2 (fun j_ => match j_ with | 0 => 24 | _ => 24) (fun j_ => match j_ with | 0 => 0 | _ => 1) (fun j_ => match j_ with | 0 => 0 | _ => 1) (fun j_ => match j_ with | 0 => segs [.n 6 x.val] | _ => segs [.n 6 y.val]) (fun j_ => match j_ with | 0 => segs [.n 6 x.val] | _ => segs [.n 6 y.val]) [2, 3, 4] (.inr ⟨rfl, by kernel_rfl⟩) (by kernel_rfl) rfl rfl rfl ?_ ?_)
  · refine GSteps.cons (gm_box 0 rfl (fun _ => rfl) (fun _ _ => rfl) (fun γ w h => ex_boxsn (K := 6) (l := [x.val]) rfl) rfl rfl rfl) ?_
    refine GSteps.cons (gm_box 1 rfl (fun _ => rfl) (fun _ _ => rfl) (fun γ w h => ex_boxsn (K := 6) (l := [y.val]) rfl) rfl rfl rfl) ?_
    refine GSteps.cons (gm_val (v := .bool false) rfl (fun _ => rfl) (fun _ => rfl) (fun γ w h => ex_assign _) rfl) ?_
    exact GSteps.nil
  intro γ1 w1 hb1 hB1 hn1
  refine th_r ?_
  have A2 : SB 24 w1 (γ1 0) [.n 6 x.val] := (hB1 0 (by decide)).2
  have le2 := (hB1 0 (by decide)).1
  have A3 : SB 24 w1 (γ1 1) [.n 6 y.val] := (hB1 1 (by decide)).2
  have le3 := (hB1 1 (by decide)).1
  have HB4 := below_then (Below.refl w.heap.size w) hb1.out
  refine wp_seq (region_m (F := fun γ => ⟨#[nv 6 [x.val], nv 6 [y.val], .pointer (some ⟨(γ1 0), 0, none⟩), .pointer (some ⟨(γ1 1), 0, none⟩), .bool false, .pointer (some ⟨γ 0, 0, none⟩), nv 6 [x.val], nv 6 [x.val], nv 6 [z1.val], nv 6 [x.val], nv 6 [z2.val], undef, undef, undef, undef, undef, undef, undef], []⟩) 1 (fun _ => 24) (fun _ => 5) (fun _ => 6) (fun _ => segs [.n 6 0]) (fun _ => segs [.n 6 z2.val]) [6, 7, 8, 9, 10, 5] (.inl ⟨rfl, by kernel_rfl⟩) (by kernel_rfl) rfl rfl rfl ?_ ?_)
  · refine GSteps.cons (gm_val (v := nv 6 [x.val]) rfl (fun _ => rfl) (fun _ => rfl) (fun γ w h => ex_loadsn (K := 6) 0 1 (m := [x.val]) flFp rfl rfl (A2.keep h.out) rfl rfl) rfl) ?_
    refine GSteps.cons (gm_val (v := nv 6 [x.val]) rfl (fun _ => rfl) (fun _ => rfl) (fun γ w h => ex_loadsn (K := 6) 0 1 (m := [x.val]) flFp rfl rfl (A2.keep h.out) rfl rfl) rfl) ?_
    refine GSteps.cons (gm_call (v := nv 6 [z1.val]) rfl (fun _ => rfl) (fun _ => rfl) (fun γ w => ex_call (vs := [nv 6 [x.val], nv 6 [x.val]]) rfl Try.call59 rfl) (fun w h => fpMul_e x x z1 rfl rfl ez1 _) rfl) ?_
    refine GSteps.cons (gm_val (v := nv 6 [x.val]) rfl (fun _ => rfl) (fun _ => rfl) (fun γ w h => ex_loadsn (K := 6) 0 1 (m := [x.val]) flFp rfl rfl (A2.keep h.out) rfl rfl) rfl) ?_
    refine GSteps.cons (gm_call (v := nv 6 [z2.val]) rfl (fun _ => rfl) (fun _ => rfl) (fun γ w => ex_call (vs := [nv 6 [z1.val], nv 6 [x.val]]) rfl Try.call59 rfl) (fun w h => fpMul_e z1 x z2 rfl rfl ez2 _) rfl) ?_
    refine GSteps.cons (gm_new 0 rfl (fun _ => rfl) (fun _ _ => rfl) (fun γ w => ex_allocsn (K := 6) (l := [0]) zFp) rfl (by kernel_rfl)) ?_
    refine GSteps.cons (gm_store 0 rfl rfl (fun _ => rfl) (len_segs (l := [.n 6 z2.val]) (l' := [.n 6 0]) rfl) (fun γ w h => ex_stores 0 1 (l := [.n 6 0]) (m := [.n 6 z2.val]) flFp.2 rfl rfl rfl (nv_cells 6 [z2.val]) h rfl rfl) rfl rfl (by kernel_rfl)) ?_
    exact GSteps.nil
  intro γ5 w5 hb5 hB5 _
  refine th_r ?_
  have A6 := A2.keep hb5.out
  have A7 := A3.keep hb5.out
  have A8 : SB 24 w5 (γ5 0) [.n 6 z2.val] := (hB5 0 (by decide)).2
  have le8 := (hB5 0 (by decide)).1
  have HB9 := below_then HB4 hb5.out
  refine wp_seq (region_m (F := fun _ => ⟨#[nv 6 [x.val], nv 6 [y.val], .pointer (some ⟨(γ1 0), 0, none⟩), .pointer (some ⟨(γ1 1), 0, none⟩), .bool r, .pointer (some ⟨(γ5 0), 0, none⟩), nv 6 [x.val], nv 6 [x.val], nv 6 [z1.val], nv 6 [x.val], nv 6 [z2.val], nv 6 [y.val], nv 6 [y.val], nv 6 [z3.val], nv 6 [z2.val], nv 6 [4], nv 6 [z4.val], .bool r], []⟩) 0 (fun _ => 0) (fun _ => 0) (fun _ => 0) (fun _ => []) (fun _ => []) [11, 12, 13, 14, 15, 16, 17, 4] (.inl ⟨rfl, by kernel_rfl⟩) (by kernel_rfl) rfl rfl rfl ?_ ?_)
  · refine GSteps.cons (gm_val (v := nv 6 [y.val]) rfl (fun _ => rfl) (fun _ => rfl) (fun γ w h => ex_loadsn (K := 6) 0 1 (m := [y.val]) flFp rfl rfl (A7.keep h.out) rfl rfl) rfl) ?_
    refine GSteps.cons (gm_val (v := nv 6 [y.val]) rfl (fun _ => rfl) (fun _ => rfl) (fun γ w h => ex_loadsn (K := 6) 0 1 (m := [y.val]) flFp rfl rfl (A7.keep h.out) rfl rfl) rfl) ?_
    refine GSteps.cons (gm_call (v := nv 6 [z3.val]) rfl (fun _ => rfl) (fun _ => rfl) (fun γ w => ex_call (vs := [nv 6 [y.val], nv 6 [y.val]]) rfl Try.call59 rfl) (fun w h => fpMul_e y y z3 rfl rfl ez3 _) rfl) ?_
    refine GSteps.cons (gm_val (v := nv 6 [z2.val]) rfl (fun _ => rfl) (fun _ => rfl) (fun γ w h => ex_loadsn (K := 6) 0 1 (m := [z2.val]) flFp rfl rfl (A8.keep h.out) rfl rfl) rfl) ?_
    refine GSteps.cons (gm_val (v := nv 6 [4]) rfl (fun _ => rfl) (fun _ => rfl) (fun γ w h => ex_limb6 (e := 4) (by decide) rfl) rfl) ?_
    refine GSteps.cons (gm_call (v := nv 6 [z4.val]) rfl (fun _ => rfl) (fun _ => rfl) (fun γ w => ex_call (vs := [nv 6 [z2.val], nv 6 [4]]) rfl Try.call60 rfl) (fun w h => fpAdd_e z2 ((4 : Zp)) z4 rfl (zc 4 (small_P (by decide))) ez4 _) rfl) ?_
    refine GSteps.cons (gm_val (v := .bool r) rfl (fun _ => rfl) (fun _ => rfl) (fun γ w h => ex_eqz z3 z4 rfl rfl rfl rfl r (by subst ez4 ez3 ez2 ez1; exact hr)) rfl) ?_
    refine GSteps.cons (gm_val (v := .bool r) rfl (fun _ => rfl) (fun _ => rfl) (fun γ w h => ex_assign _) rfl) ?_
    exact GSteps.nil
  intro _ w10 hb10 _ _
  refine th_r ?_
  have A11 := A6.keep hb10.out
  have A12 := A7.keep hb10.out
  have A13 := A8.keep hb10.out
  have HB14 := below_then HB9 hb10.out
  exact wp_ret (bodyPost_ret (ret1 Try.results32 (res_tmp rfl)) rfl ⟨rfl, HB14⟩)

set_option maxRecDepth 20000 in
set_option maxHeartbeats 4000000 in
theorem oneRight_aff (x y : Zp) (r : Bool) (hr : r = true ↔ y * y = x * x * x + 4) (w : World) :
    Calls Try.prog 11 #[sv [.n 6 x.val, .n 6 y.val, .b false]] w (Is (.bool r) w) := by
  go_enter Try.func11, Try.ntmps11
  refine wp_seq (region_m (F := fun γ => ⟨#[sv [.n 6 x.val, .n 6 y.val, .b false], .pointer (some ⟨γ 0, 0, none⟩), .bool false, undef, undef, undef, undef, undef, undef, undef, undef, undef, undef, undef, undef, undef, undef, undef, undef, undef, undef, undef, undef], []⟩) 1 (fun _ => 26) (fun _ => 0) (fun _ => 0) (fun _ => segs [.n 6 x.val, .n 6 y.val, .b false]) (fun _ => segs [.n 6 x.val, .n 6 y.val, .b false]) [1, 2] (.inr ⟨rfl, by kernel_rfl⟩) (by kernel_rfl) rfl rfl rfl ?_ ?_)
  · refine GSteps.cons (gm_box 0 rfl (fun _ => rfl) (fun _ _ => rfl) (fun γ w h => ex_boxs (l := [.n 6 x.val, .n 6 y.val, .b false]) rfl) rfl rfl rfl) ?_
    refine GSteps.cons (gm_val (v := .bool false) rfl (fun _ => rfl) (fun _ => rfl) (fun γ w h => ex_assign _) rfl) ?_
    exact GSteps.nil
  intro γ1 w1 hb1 hB1 _
  refine th_r ?_
  have A2 : SB 26 w1 (γ1 0) [.n 6 x.val, .n 6 y.val, .b false] := (hB1 0 (by decide)).2
  have le2 := (hB1 0 (by decide)).1
  have HB3 := below_then (Below.refl w.heap.size w) hb1.out
  refine wp_seq ?_
  refine wp_seq (region_m (F := fun _ => ⟨#[sv [.n 6 x.val, .n 6 y.val, .b false], .pointer (some ⟨(γ1 0), 0, none⟩), .bool false, .pointer (some ⟨(γ1 0), 12, none⟩), .bool false, undef, undef, undef, undef, undef, undef, undef, undef, undef, undef, undef, undef, undef, undef, undef, undef, undef, undef], []⟩) 0 (fun _ => 0) (fun _ => 0) (fun _ => 0) (fun _ => []) (fun _ => []) [3, 4] (.inr ⟨rfl, by kernel_rfl⟩) (by kernel_rfl) rfl rfl rfl ?_ ?_)
  · refine GSteps.cons (gm_valg (fun γ => .pointer (some ⟨(γ1 0), 12, none⟩)) rfl (fun _ => rfl) (fun _ => rfl) (fun γ w h => ex_field faG1_2 rfl) rfl) ?_
    refine GSteps.cons (gm_val (v := .bool false) rfl (fun _ => rfl) (fun _ => rfl) (fun γ w h => ex_load1 2 (s := .b false) (v := .bool false) sgBool rfl (A2.keep h.out) rfl rfl rfl) rfl) ?_
    exact GSteps.nil
  intro _ w4 hb4 _ _
  refine th_r ?_
  have A5 := A2.keep hb4.out
  have HB6 := below_then HB3 hb4.out
  refine wp_cond_false rfl ?_
  refine wp_skip ?_
  refine th_r ?_
  refine wp_seq (region_m (F := fun _ => ⟨#[sv [.n 6 x.val, .n 6 y.val, .b false], .pointer (some ⟨(γ1 0), 0, none⟩), .bool r, .pointer (some ⟨(γ1 0), 12, none⟩), .bool false, undef, undef, undef, .pointer (some ⟨(γ1 0), 0, none⟩), nv 6 [x.val], .bool true, .bool true, .pointer (some ⟨(γ1 0), 6, none⟩), nv 6 [y.val], .bool true, .bool true, .bool true, .pointer (some ⟨(γ1 0), 0, none⟩), nv 6 [x.val], .pointer (some ⟨(γ1 0), 6, none⟩), nv 6 [y.val], .bool r, .bool r], []⟩) 0 (fun _ => 0) (fun _ => 0) (fun _ => 0) (fun _ => []) (fun _ => []) [8, 9, 10, 11, 12, 13, 14, 15, 16, 17, 18, 19, 20, 21, 22, 2] (.inr ⟨rfl, by kernel_rfl⟩) (by kernel_rfl) rfl rfl rfl ?_ ?_)
  · refine GSteps.cons (gm_valg (fun γ => .pointer (some ⟨(γ1 0), 0, none⟩)) rfl (fun _ => rfl) (fun _ => rfl) (fun γ w h => ex_field faG1_0 rfl) rfl) ?_
    refine GSteps.cons (gm_val (v := nv 6 [x.val]) rfl (fun _ => rfl) (fun _ => rfl) (fun γ w h => ex_loadsn (K := 6) 0 1 (m := [x.val]) flFp rfl rfl (A5.keep h.out) rfl rfl) rfl) ?_
    refine GSteps.cons (gm_call (v := .bool true) rfl (fun _ => rfl) (fun _ => rfl) (fun γ w => ex_call (vs := [nv 6 [x.val]]) rfl Try.call31 rfl) (fun w h => fpRight_e x rfl _) rfl) ?_
    refine GSteps.cons (gm_val (v := .bool true) rfl (fun _ => rfl) (fun _ => rfl) (fun γ w h => ex_move _) rfl) ?_
    refine GSteps.cons (gm_valg (fun γ => .pointer (some ⟨(γ1 0), 6, none⟩)) rfl (fun _ => rfl) (fun _ => rfl) (fun γ w h => ex_field faG1_1 rfl) rfl) ?_
    refine GSteps.cons (gm_val (v := nv 6 [y.val]) rfl (fun _ => rfl) (fun _ => rfl) (fun γ w h => ex_loadsn (K := 6) 1 1 (m := [y.val]) flFp rfl rfl (A5.keep h.out) rfl rfl) rfl) ?_
    refine GSteps.cons (gm_call (v := .bool true) rfl (fun _ => rfl) (fun _ => rfl) (fun γ w => ex_call (vs := [nv 6 [y.val]]) rfl Try.call31 rfl) (fun w h => fpRight_e y rfl _) rfl) ?_
    refine GSteps.cons (gm_val (v := .bool true) rfl (fun _ => rfl) (fun _ => rfl) (fun γ w h => ex_pick (r := true) rfl) rfl) ?_
    refine GSteps.cons (gm_val (v := .bool true) rfl (fun _ => rfl) (fun _ => rfl) (fun γ w h => ex_move _) rfl) ?_
    refine GSteps.cons (gm_valg (fun γ => .pointer (some ⟨(γ1 0), 0, none⟩)) rfl (fun _ => rfl) (fun _ => rfl) (fun γ w h => ex_field faG1_0 rfl) rfl) ?_
    refine GSteps.cons (gm_val (v := nv 6 [x.val]) rfl (fun _ => rfl) (fun _ => rfl) (fun γ w h => ex_loadsn (K := 6) 0 1 (m := [x.val]) flFp rfl rfl (A5.keep h.out) rfl rfl) rfl) ?_
    refine GSteps.cons (gm_valg (fun γ => .pointer (some ⟨(γ1 0), 6, none⟩)) rfl (fun _ => rfl) (fun _ => rfl) (fun γ w h => ex_field faG1_1 rfl) rfl) ?_
    refine GSteps.cons (gm_val (v := nv 6 [y.val]) rfl (fun _ => rfl) (fun _ => rfl) (fun γ w h => ex_loadsn (K := 6) 1 1 (m := [y.val]) flFp rfl rfl (A5.keep h.out) rfl rfl) rfl) ?_
    refine GSteps.cons (gm_call (v := .bool r) rfl (fun _ => rfl) (fun _ => rfl) (fun γ w => ex_call (vs := [nv 6 [x.val], nv 6 [y.val]]) rfl Try.call32 rfl) (fun w h => onemeets_v x y r hr _) rfl) ?_
    refine GSteps.cons (gm_val (v := .bool r) rfl (fun _ => rfl) (fun _ => rfl) (fun γ w h => ex_pick (r := true) rfl) rfl) ?_
    refine GSteps.cons (gm_val (v := .bool r) rfl (fun _ => rfl) (fun _ => rfl) (fun γ w h => ex_assign _) rfl) ?_
    exact GSteps.nil
  intro _ w7 hb7 _ _
  refine th_r ?_
  have A8 := A5.keep hb7.out
  have HB9 := below_then HB6 hb7.out
  exact wp_ret (bodyPost_ret (ret1 Try.results11 (res_tmp rfl)) rfl ⟨rfl, HB9⟩)

set_option maxRecDepth 20000 in
set_option maxHeartbeats 4000000 in
theorem r8Right_rawx (x y : Nat) (hx : x < fpB) (h0 : ¬ x < pN) (w : World) :
    Calls Try.prog 9 #[sv [.n 6 x, .n 6 y, .b false]] w (Is (.bool false) w) := by
  obtain ⟨c, ec⟩ : ∃ c, c = x % pN := ⟨_, rfl⟩
  have hlt : c < pN := ec ▸ fpM_mod _
  have hc : c < fpB := Nat.lt_trans hlt fpM_lt
  go_enter Try.func9, Try.ntmps9
  refine wp_seq (region_m (F := fun γ => ⟨List.toArray ((sv [.n 6 x, .n 6 y, .b false]) :: (.pointer (some ⟨γ 0, 0, none⟩)) :: (.bool false) :: undef :: undef :: undef :: undef :: undef :: undef :: undef :: undef :: undef :: undef :: undef :: undef :: undef :: undef :: undef :: undef :: undef :: undef :: undef :: undef :: undef :: undef :: undef :: undef :: undef :: undef :: undef :: undef :: undef :: undef :: undef :: undef :: undef :: undef :: undef :: undef :: undef :: []), []⟩) 1 (fun _ => 26) (fun _ => 0) (fun _ => 0) (fun _ => segs [.n 6 x, .n 6 y, .b false]) (fun _ => segs [.n 6 x, .n 6 y, .b false]) [1, 2] (.inr ⟨rfl, by kernel_rfl⟩) (by kernel_rfl) rfl rfl rfl ?_ ?_)
  · refine GSteps.cons (gm_box 0 rfl (fun _ => rfl) (fun _ _ => rfl) (fun γ w h => ex_boxs (l := [.n 6 x, .n 6 y, .b false]) rfl) rfl rfl rfl) ?_
    refine GSteps.cons (gm_val (v := .bool false) rfl (fun _ => rfl) (fun _ => rfl) (fun γ w h => ex_assign _) rfl) ?_
    exact GSteps.nil
  intro γ1 w1 hb1 hB1 _
  refine th_r ?_
  have A2 : SB 26 w1 (γ1 0) [.n 6 x, .n 6 y, .b false] := (hB1 0 (by decide)).2
  have le2 := (hB1 0 (by decide)).1
  have HB3 := below_then (Below.refl w.heap.size w) hb1.out
  refine wp_seq ?_
  refine wp_seq (region_m (F := fun _ => ⟨List.toArray ((sv [.n 6 x, .n 6 y, .b false]) :: (.pointer (some ⟨(γ1 0), 0, none⟩)) :: (.bool false) :: undef :: (.pointer (some ⟨(γ1 0), 12, none⟩)) :: (.bool false) :: undef :: undef :: undef :: undef :: undef :: undef :: undef :: undef :: undef :: undef :: undef :: undef :: undef :: undef :: undef :: undef :: undef :: undef :: undef :: undef :: undef :: undef :: undef :: undef :: undef :: undef :: undef :: undef :: undef :: undef :: undef :: undef :: undef :: undef :: []), []⟩) 0 (fun _ => 0) (fun _ => 0) (fun _ => 0) (fun _ => []) (fun _ => []) [4, 5] (.inr ⟨rfl, by kernel_rfl⟩) (by kernel_rfl) rfl rfl rfl ?_ ?_)
  · refine GSteps.cons (gm_valg (fun γ => .pointer (some ⟨(γ1 0), 12, none⟩)) rfl (fun _ => rfl) (fun _ => rfl) (fun γ w h => ex_field faG1_2 rfl) rfl) ?_
    refine GSteps.cons (gm_val (v := .bool false) rfl (fun _ => rfl) (fun _ => rfl) (fun γ w h => ex_load1 2 (s := .b false) (v := .bool false) sgBool rfl (A2.keep h.out) rfl rfl rfl) rfl) ?_
    exact GSteps.nil
  intro _ w4 hb4 _ _
  refine th_r ?_
  have A5 := A2.keep hb4.out
  have HB6 := below_then HB3 hb4.out
  refine wp_cond_false rfl ?_
  refine wp_skip ?_
  refine th_r ?_
  refine wp_seq ?_
  refine wp_seq (region_m (F := fun _ => ⟨List.toArray ((sv [.n 6 x, .n 6 y, .b false]) :: (.pointer (some ⟨(γ1 0), 0, none⟩)) :: (.bool false) :: undef :: (.pointer (some ⟨(γ1 0), 12, none⟩)) :: (.bool false) :: undef :: undef :: undef :: (.pointer (some ⟨(γ1 0), 0, none⟩)) :: (nv 6 [x]) :: (nv 6 [c]) :: (.pointer (some ⟨(γ1 0), 0, none⟩)) :: (nv 6 [x]) :: (.bool true) :: (.bool true) :: undef :: undef :: undef :: undef :: undef :: undef :: (.bool true) :: undef :: undef :: undef :: undef :: undef :: undef :: undef :: undef :: undef :: undef :: undef :: undef :: undef :: undef :: undef :: undef :: undef :: []), []⟩) 0 (fun _ => 0) (fun _ => 0) (fun _ => 0) (fun _ => []) (fun _ => []) [9, 10, 11, 12, 13, 14, 15, 16, 17, 18, 19, 20, 21, 22] (.inl ⟨rfl, by kernel_rfl⟩) (by kernel_rfl) rfl rfl rfl ?_ ?_)
  · refine GSteps.cons (gm_valg (fun γ => .pointer (some ⟨(γ1 0), 0, none⟩)) rfl (fun _ => rfl) (fun _ => rfl) (fun γ w h => ex_field faG1_0 rfl) rfl) ?_
    refine GSteps.cons (gm_val (v := nv 6 [x]) rfl (fun _ => rfl) (fun _ => rfl) (fun γ w h => ex_loadsn (K := 6) 0 1 (m := [x]) flFp rfl rfl (A5.keep h.out) rfl rfl) rfl) ?_
    refine GSteps.cons (gm_call (v := nv 6 [c]) rfl (fun _ => rfl) (fun _ => rfl) (fun γ w => ex_call (vs := [nv 6 [x]]) rfl Try.call27 rfl) (fun w h => r4Clean_n x _ hx c ec) rfl) ?_
    refine GSteps.cons (gm_valg (fun γ => .pointer (some ⟨(γ1 0), 0, none⟩)) rfl (fun _ => rfl) (fun _ => rfl) (fun γ w h => ex_field faG1_0 rfl) rfl) ?_
    refine GSteps.cons (gm_val (v := nv 6 [x]) rfl (fun _ => rfl) (fun _ => rfl) (fun γ w h => ex_loadsn (K := 6) 0 1 (m := [x]) flFp rfl rfl (A5.keep h.out) rfl rfl) rfl) ?_
    refine GSteps.cons (gm_val (v := .bool true) rfl (fun _ => rfl) (fun _ => rfl) (fun γ w h => ex_neqn (K := 6) (l := [c]) (m := [x]) eqFp rfl rfl rfl rfl rfl (fpB_all1 hc) (fpB_all1 hx) rfl true (by simp; omega)) rfl) ?_
    refine GSteps.cons (gm_val (v := .bool true) rfl (fun _ => rfl) (fun _ => rfl) (fun γ w h => ex_move _) rfl) ?_
    refine GSteps.cons (gm_skip rfl (fun _ => rfl) (fun _ => rfl) rfl) ?_
    refine GSteps.cons (gm_skip rfl (fun _ => rfl) (fun _ => rfl) rfl) ?_
    refine GSteps.cons (gm_skip rfl (fun _ => rfl) (fun _ => rfl) rfl) ?_
    refine GSteps.cons (gm_skip rfl (fun _ => rfl) (fun _ => rfl) rfl) ?_
    refine GSteps.cons (gm_skip rfl (fun _ => rfl) (fun _ => rfl) rfl) ?_
    refine GSteps.cons (gm_skip rfl (fun _ => rfl) (fun _ => rfl) rfl) ?_
    refine GSteps.cons (gm_val (v := .bool true) rfl (fun _ => rfl) (fun _ => rfl) (fun γ w h => ex_pick (r := true) rfl) rfl) ?_
    exact GSteps.nil
  intro _ w7 hb7 _ _
  refine th_r ?_
  have A8 := A5.keep hb7.out
  have HB9 := below_then HB6 hb7.out
  refine wp_cond_true rfl ?_
  refine wp_seq (region_m (F := fun _ => ⟨List.toArray ((sv [.n 6 x, .n 6 y, .b false]) :: (.pointer (some ⟨(γ1 0), 0, none⟩)) :: (.bool false) :: undef :: (.pointer (some ⟨(γ1 0), 12, none⟩)) :: (.bool false) :: undef :: undef :: undef :: (.pointer (some ⟨(γ1 0), 0, none⟩)) :: (nv 6 [x]) :: (nv 6 [c]) :: (.pointer (some ⟨(γ1 0), 0, none⟩)) :: (nv 6 [x]) :: (.bool true) :: (.bool true) :: undef :: undef :: undef :: undef :: undef :: undef :: (.bool true) :: undef :: undef :: undef :: undef :: undef :: undef :: undef :: undef :: undef :: undef :: undef :: undef :: undef :: undef :: undef :: undef :: undef :: []), []⟩) 0 (fun _ => 0) (fun _ => 0) (fun _ => 0) (fun _ => []) (fun _ => []) [2] (.inr ⟨rfl, by kernel_rfl⟩) (by kernel_rfl) rfl rfl rfl ?_ ?_)
  · refine GSteps.cons (gm_val (v := .bool false) rfl (fun _ => rfl) (fun _ => rfl) (fun γ w h => ex_assign _) rfl) ?_
    exact GSteps.nil
  intro _ w10 hb10 _ _
  refine th_r ?_
  have A11 := A8.keep hb10.out
  have HB12 := below_then HB9 hb10.out
  exact wp_ret (th_ret (bodyPost_ret (ret1 Try.results9 (res_tmp rfl)) rfl ⟨rfl, HB12⟩))

set_option maxRecDepth 20000 in
set_option maxHeartbeats 4000000 in
theorem r8Right_rawy (x y : Nat) (hx : x < fpB) (hy : y < fpB) (h1 : x < pN) (h0 : ¬ y < pN) (w : World) :
    Calls Try.prog 9 #[sv [.n 6 x, .n 6 y, .b false]] w (Is (.bool false) w) := by
  obtain ⟨c, ec⟩ : ∃ c, c = y % pN := ⟨_, rfl⟩
  have hlt : c < pN := ec ▸ fpM_mod _
  have hc : c < fpB := Nat.lt_trans hlt fpM_lt
  go_enter Try.func9, Try.ntmps9
  refine wp_seq (region_m (F := fun γ => ⟨List.toArray ((sv [.n 6 x, .n 6 y, .b false]) :: (.pointer (some ⟨γ 0, 0, none⟩)) :: (.bool false) :: undef :: undef :: undef :: undef :: undef :: undef :: undef :: undef :: undef :: undef :: undef :: undef :: undef :: undef :: undef :: undef :: undef :: undef :: undef :: undef :: undef :: undef :: undef :: undef :: undef :: undef :: undef :: undef :: undef :: undef :: undef :: undef :: undef :: undef :: undef :: undef :: undef :: []), []⟩) 1 (fun _ => 26) (fun _ => 0) (fun _ => 0) (fun _ => segs [.n 6 x, .n 6 y, .b false]) (fun _ => segs [.n 6 x, .n 6 y, .b false]) [1, 2] (.inr ⟨rfl, by kernel_rfl⟩) (by kernel_rfl) rfl rfl rfl ?_ ?_)
  · refine GSteps.cons (gm_box 0 rfl (fun _ => rfl) (fun _ _ => rfl) (fun γ w h => ex_boxs (l := [.n 6 x, .n 6 y, .b false]) rfl) rfl rfl rfl) ?_
    refine GSteps.cons (gm_val (v := .bool false) rfl (fun _ => rfl) (fun _ => rfl) (fun γ w h => ex_assign _) rfl) ?_
    exact GSteps.nil
  intro γ1 w1 hb1 hB1 _
  refine th_r ?_
  have A2 : SB 26 w1 (γ1 0) [.n 6 x, .n 6 y, .b false] := (hB1 0 (by decide)).2
  have le2 := (hB1 0 (by decide)).1
  have HB3 := below_then (Below.refl w.heap.size w) hb1.out
  refine wp_seq ?_
  refine wp_seq (region_m (F := fun _ => ⟨List.toArray ((sv [.n 6 x, .n 6 y, .b false]) :: (.pointer (some ⟨(γ1 0), 0, none⟩)) :: (.bool false) :: undef :: (.pointer (some ⟨(γ1 0), 12, none⟩)) :: (.bool false) :: undef :: undef :: undef :: undef :: undef :: undef :: undef :: undef :: undef :: undef :: undef :: undef :: undef :: undef :: undef :: undef :: undef :: undef :: undef :: undef :: undef :: undef :: undef :: undef :: undef :: undef :: undef :: undef :: undef :: undef :: undef :: undef :: undef :: undef :: []), []⟩) 0 (fun _ => 0) (fun _ => 0) (fun _ => 0) (fun _ => []) (fun _ => []) [4, 5] (.inr ⟨rfl, by kernel_rfl⟩) (by kernel_rfl) rfl rfl rfl ?_ ?_)
  · refine GSteps.cons (gm_valg (fun γ => .pointer (some ⟨(γ1 0), 12, none⟩)) rfl (fun _ => rfl) (fun _ => rfl) (fun γ w h => ex_field faG1_2 rfl) rfl) ?_
    refine GSteps.cons (gm_val (v := .bool false) rfl (fun _ => rfl) (fun _ => rfl) (fun γ w h => ex_load1 2 (s := .b false) (v := .bool false) sgBool rfl (A2.keep h.out) rfl rfl rfl) rfl) ?_
    exact GSteps.nil
  intro _ w4 hb4 _ _
  refine th_r ?_
  have A5 := A2.keep hb4.out
  have HB6 := below_then HB3 hb4.out
  refine wp_cond_false rfl ?_
  refine wp_skip ?_
  refine th_r ?_
  refine wp_seq ?_
  refine wp_seq (region_m (F := fun _ => ⟨List.toArray ((sv [.n 6 x, .n 6 y, .b false]) :: (.pointer (some ⟨(γ1 0), 0, none⟩)) :: (.bool false) :: undef :: (.pointer (some ⟨(γ1 0), 12, none⟩)) :: (.bool false) :: undef :: undef :: undef :: (.pointer (some ⟨(γ1 0), 0, none⟩)) :: (nv 6 [x]) :: (nv 6 [x]) :: (.pointer (some ⟨(γ1 0), 0, none⟩)) :: (nv 6 [x]) :: (.bool false) :: (.bool false) :: (.pointer (some ⟨(γ1 0), 6, none⟩)) :: (nv 6 [y]) :: (nv 6 [c]) :: (.pointer (some ⟨(γ1 0), 6, none⟩)) :: (nv 6 [y]) :: (.bool true) :: (.bool true) :: undef :: undef :: undef :: undef :: undef :: undef :: undef :: undef :: undef :: undef :: undef :: undef :: undef :: undef :: undef :: undef :: undef :: []), []⟩) 0 (fun _ => 0) (fun _ => 0) (fun _ => 0) (fun _ => []) (fun _ => []) [9, 10, 11, 12, 13, 14, 15, 16, 17, 18, 19, 20, 21, 22] (.inl ⟨rfl, by kernel_rfl⟩) (by kernel_rfl) rfl rfl rfl ?_ ?_)
  · refine GSteps.cons (gm_valg (fun γ => .pointer (some ⟨(γ1 0), 0, none⟩)) rfl (fun _ => rfl) (fun _ => rfl) (fun γ w h => ex_field faG1_0 rfl) rfl) ?_
    refine GSteps.cons (gm_val (v := nv 6 [x]) rfl (fun _ => rfl) (fun _ => rfl) (fun γ w h => ex_loadsn (K := 6) 0 1 (m := [x]) flFp rfl rfl (A5.keep h.out) rfl rfl) rfl) ?_
    refine GSteps.cons (gm_call (v := nv 6 [x]) rfl (fun _ => rfl) (fun _ => rfl) (fun γ w => ex_call (vs := [nv 6 [x]]) rfl Try.call27 rfl) (fun w h => r4Clean_n x _ hx x (Nat.mod_eq_of_lt h1).symm) rfl) ?_
    refine GSteps.cons (gm_valg (fun γ => .pointer (some ⟨(γ1 0), 0, none⟩)) rfl (fun _ => rfl) (fun _ => rfl) (fun γ w h => ex_field faG1_0 rfl) rfl) ?_
    refine GSteps.cons (gm_val (v := nv 6 [x]) rfl (fun _ => rfl) (fun _ => rfl) (fun γ w h => ex_loadsn (K := 6) 0 1 (m := [x]) flFp rfl rfl (A5.keep h.out) rfl rfl) rfl) ?_
    refine GSteps.cons (gm_val (v := .bool false) rfl (fun _ => rfl) (fun _ => rfl) (fun γ w h => ex_neqt (K := 6) (l := [x]) eqFp rfl rfl rfl rfl) rfl) ?_
    refine GSteps.cons (gm_val (v := .bool false) rfl (fun _ => rfl) (fun _ => rfl) (fun γ w h => ex_move _) rfl) ?_
    refine GSteps.cons (gm_valg (fun γ => .pointer (some ⟨(γ1 0), 6, none⟩)) rfl (fun _ => rfl) (fun _ => rfl) (fun γ w h => ex_field faG1_1 rfl) rfl) ?_
    refine GSteps.cons (gm_val (v := nv 6 [y]) rfl (fun _ => rfl) (fun _ => rfl) (fun γ w h => ex_loadsn (K := 6) 1 1 (m := [y]) flFp rfl rfl (A5.keep h.out) rfl rfl) rfl) ?_
    refine GSteps.cons (gm_call (v := nv 6 [c]) rfl (fun _ => rfl) (fun _ => rfl) (fun γ w => ex_call (vs := [nv 6 [y]]) rfl Try.call27 rfl) (fun w h => r4Clean_n y _ hy c ec) rfl) ?_
    refine GSteps.cons (gm_valg (fun γ => .pointer (some ⟨(γ1 0), 6, none⟩)) rfl (fun _ => rfl) (fun _ => rfl) (fun γ w h => ex_field faG1_1 rfl) rfl) ?_
    refine GSteps.cons (gm_val (v := nv 6 [y]) rfl (fun _ => rfl) (fun _ => rfl) (fun γ w h => ex_loadsn (K := 6) 1 1 (m := [y]) flFp rfl rfl (A5.keep h.out) rfl rfl) rfl) ?_
    refine GSteps.cons (gm_val (v := .bool true) rfl (fun _ => rfl) (fun _ => rfl) (fun γ w h => ex_neqn (K := 6) (l := [c]) (m := [y]) eqFp rfl rfl rfl rfl rfl (fpB_all1 hc) (fpB_all1 hy) rfl true (by simp; omega)) rfl) ?_
    refine GSteps.cons (gm_val (v := .bool true) rfl (fun _ => rfl) (fun _ => rfl) (fun γ w h => ex_pick (r := false) rfl) rfl) ?_
    exact GSteps.nil
  intro _ w7 hb7 _ _
  refine th_r ?_
  have A8 := A5.keep hb7.out
  have HB9 := below_then HB6 hb7.out
  refine wp_cond_true rfl ?_
  refine wp_seq (region_m (F := fun _ => ⟨List.toArray ((sv [.n 6 x, .n 6 y, .b false]) :: (.pointer (some ⟨(γ1 0), 0, none⟩)) :: (.bool false) :: undef :: (.pointer (some ⟨(γ1 0), 12, none⟩)) :: (.bool false) :: undef :: undef :: undef :: (.pointer (some ⟨(γ1 0), 0, none⟩)) :: (nv 6 [x]) :: (nv 6 [x]) :: (.pointer (some ⟨(γ1 0), 0, none⟩)) :: (nv 6 [x]) :: (.bool false) :: (.bool false) :: (.pointer (some ⟨(γ1 0), 6, none⟩)) :: (nv 6 [y]) :: (nv 6 [c]) :: (.pointer (some ⟨(γ1 0), 6, none⟩)) :: (nv 6 [y]) :: (.bool true) :: (.bool true) :: undef :: undef :: undef :: undef :: undef :: undef :: undef :: undef :: undef :: undef :: undef :: undef :: undef :: undef :: undef :: undef :: undef :: []), []⟩) 0 (fun _ => 0) (fun _ => 0) (fun _ => 0) (fun _ => []) (fun _ => []) [2] (.inr ⟨rfl, by kernel_rfl⟩) (by kernel_rfl) rfl rfl rfl ?_ ?_)
  · refine GSteps.cons (gm_val (v := .bool false) rfl (fun _ => rfl) (fun _ => rfl) (fun γ w h => ex_assign _) rfl) ?_
    exact GSteps.nil
  intro _ w10 hb10 _ _
  refine th_r ?_
  have A11 := A8.keep hb10.out
  have HB12 := below_then HB9 hb10.out
  exact wp_ret (th_ret (bodyPost_ret (ret1 Try.results9 (res_tmp rfl)) rfl ⟨rfl, HB12⟩))

set_option maxRecDepth 20000 in
set_option maxHeartbeats 4000000 in
theorem r8Right_aff (x y : Zp) (r : Bool) (hr : r = true ↔ y * y = x * x * x + 4) (w : World) :
    Calls Try.prog 9 #[sv [.n 6 x.val, .n 6 y.val, .b false]] w (Is (.bool r) w) := by
  obtain ⟨z1, ez1⟩ : ∃ q_ : Zp, q_ = x * x := ⟨_, rfl⟩
  obtain ⟨z2, ez2⟩ : ∃ q_ : Zp, q_ = x * z1 := ⟨_, rfl⟩
  obtain ⟨z3, ez3⟩ : ∃ q_ : Zp, q_ = y * y := ⟨_, rfl⟩
  obtain ⟨z4, ez4⟩ : ∃ q_ : Zp, q_ = z2 + ((4 : Zp)) := ⟨_, rfl⟩
  go_enter Try.func9, Try.ntmps9
  refine wp_seq (region_m (F := fun γ => ⟨List.toArray ((sv [.n 6 x.val, .n 6 y.val, .b false]) :: (.pointer (some ⟨γ 0, 0, none⟩)) :: (.bool false) :: undef :: undef :: undef :: undef :: undef :: undef :: undef :: undef :: undef :: undef :: undef :: undef :: undef :: undef :: undef :: undef :: undef :: undef :: undef :: undef :: undef :: undef :: undef :: undef :: undef :: undef :: undef :: undef :: undef :: undef :: undef :: undef :: undef :: undef :: undef :: undef :: undef :: []), []⟩) 1 (fun _ => 26) (fun _ => 0) (fun _ => 0) (fun _ => segs [.n 6 x.val, .n 6 y.val, .b false]) (fun _ => segs [.n 6 x.val, .n 6 y.val, .b false]) [1, 2] (.inr ⟨rfl, by kernel_rfl⟩) (by kernel_rfl) rfl rfl rfl ?_ ?_)
  · refine GSteps.cons (gm_box 0 rfl (fun _ => rfl) (fun _ _ => rfl) (fun γ w h => ex_boxs (l := [.n 6 x.val, .n 6 y.val, .b false]) rfl) rfl rfl rfl) ?_
    refine GSteps.cons (gm_val (v := .bool false) rfl (fun _ => rfl) (fun _ => rfl) (fun γ w h => ex_assign _) rfl) ?_
    exact GSteps.nil
  intro γ1 w1 hb1 hB1 _
  refine th_r ?_
  have A2 : SB 26 w1 (γ1 0) [.n 6 x.val, .n 6 y.val, .b false] := (hB1 0 (by decide)).2
  have le2 := (hB1 0 (by decide)).1
  have HB3 := below_then (Below.refl w.heap.size w) hb1.out
  refine wp_seq ?_
  refine wp_seq (region_m (F := fun _ => ⟨List.toArray ((sv [.n 6 x.val, .n 6 y.val, .b false]) :: (.pointer (some ⟨(γ1 0), 0, none⟩)) :: (.bool false) :: undef :: (.pointer (some ⟨(γ1 0), 12, none⟩)) :: (.bool false) :: undef :: undef :: undef :: undef :: undef :: undef :: undef :: undef :: undef :: undef :: undef :: undef :: undef :: undef :: undef :: undef :: undef :: undef :: undef :: undef :: undef :: undef :: undef :: undef :: undef :: undef :: undef :: undef :: undef :: undef :: undef :: undef :: undef :: undef :: []), []⟩) 0 (fun _ => 0) (fun _ => 0) (fun _ => 0) (fun _ => []) (fun _ => []) [4, 5] (.inr ⟨rfl, by kernel_rfl⟩) (by kernel_rfl) rfl rfl rfl ?_ ?_)
  · refine GSteps.cons (gm_valg (fun γ => .pointer (some ⟨(γ1 0), 12, none⟩)) rfl (fun _ => rfl) (fun _ => rfl) (fun γ w h => ex_field faG1_2 rfl) rfl) ?_
    refine GSteps.cons (gm_val (v := .bool false) rfl (fun _ => rfl) (fun _ => rfl) (fun γ w h => ex_load1 2 (s := .b false) (v := .bool false) sgBool rfl (A2.keep h.out) rfl rfl rfl) rfl) ?_
    exact GSteps.nil
  intro _ w4 hb4 _ _
  refine th_r ?_
  have A5 := A2.keep hb4.out
  have HB6 := below_then HB3 hb4.out
  refine wp_cond_false rfl ?_
  refine wp_skip ?_
  refine th_r ?_
  refine wp_seq ?_
  refine wp_seq (region_m (F := fun _ => ⟨List.toArray ((sv [.n 6 x.val, .n 6 y.val, .b false]) :: (.pointer (some ⟨(γ1 0), 0, none⟩)) :: (.bool false) :: undef :: (.pointer (some ⟨(γ1 0), 12, none⟩)) :: (.bool false) :: undef :: undef :: undef :: (.pointer (some ⟨(γ1 0), 0, none⟩)) :: (nv 6 [x.val]) :: (nv 6 [x.val]) :: (.pointer (some ⟨(γ1 0), 0, none⟩)) :: (nv 6 [x.val]) :: (.bool false) :: (.bool false) :: (.pointer (some ⟨(γ1 0), 6, none⟩)) :: (nv 6 [y.val]) :: (nv 6 [y.val]) :: (.pointer (some ⟨(γ1 0), 6, none⟩)) :: (nv 6 [y.val]) :: (.bool false) :: (.bool false) :: undef :: undef :: undef :: undef :: undef :: undef :: undef :: undef :: undef :: undef :: undef :: undef :: undef :: undef :: undef :: undef :: undef :: []), []⟩) 0 (fun _ => 0) (fun _ => 0) (fun _ => 0) (fun _ => []) (fun _ => []) [9, 10, 11, 12, 13, 14, 15, 16, 17, 18, 19, 20, 21, 22] (.inl ⟨rfl, by kernel_rfl⟩) (by kernel_rfl) rfl rfl rfl ?_ ?_)
  · refine GSteps.cons (gm_valg (fun γ => .pointer (some ⟨(γ1 0), 0, none⟩)) rfl (fun _ => rfl) (fun _ => rfl) (fun γ w h => ex_field faG1_0 rfl) rfl) ?_
    refine GSteps.cons (gm_val (v := nv 6 [x.val]) rfl (fun _ => rfl) (fun _ => rfl) (fun γ w h => ex_loadsn (K := 6) 0 1 (m := [x.val]) flFp rfl rfl (A5.keep h.out) rfl rfl) rfl) ?_
    refine GSteps.cons (gm_call (v := nv 6 [x.val]) rfl (fun _ => rfl) (fun _ => rfl) (fun γ w => ex_call (vs := [nv 6 [x.val]]) rfl Try.call27 rfl) (fun w h => r4Clean_e x rfl _) rfl) ?_
    refine GSteps.cons (gm_valg (fun γ => .pointer (some ⟨(γ1 0), 0, none⟩)) rfl (fun _ => rfl) (fun _ => rfl) (fun γ w h => ex_field faG1_0 rfl) rfl) ?_
    refine GSteps.cons (gm_val (v := nv 6 [x.val]) rfl (fun _ => rfl) (fun _ => rfl) (fun γ w h => ex_loadsn (K := 6) 0 1 (m := [x.val]) flFp rfl rfl (A5.keep h.out) rfl rfl) rfl) ?_
    refine GSteps.cons (gm_val (v := .bool false) rfl (fun _ => rfl) (fun _ => rfl) (fun γ w h => ex_neqt (K := 6) (l := [x.val]) eqFp rfl rfl rfl rfl) rfl) ?_
    refine GSteps.cons (gm_val (v := .bool false) rfl (fun _ => rfl) (fun _ => rfl) (fun γ w h => ex_move _) rfl) ?_
    refine GSteps.cons (gm_valg (fun γ => .pointer (some ⟨(γ1 0), 6, none⟩)) rfl (fun _ => rfl) (fun _ => rfl) (fun γ w h => ex_field faG1_1 rfl) rfl) ?_
    refine GSteps.cons (gm_val (v := nv 6 [y.val]) rfl (fun _ => rfl) (fun _ => rfl) (fun γ w h => ex_loadsn (K := 6) 1 1 (m := [y.val]) flFp rfl rfl (A5.keep h.out) rfl rfl) rfl) ?_
    refine GSteps.cons (gm_call (v := nv 6 [y.val]) rfl (fun _ => rfl) (fun _ => rfl) (fun γ w => ex_call (vs := [nv 6 [y.val]]) rfl Try.call27 rfl) (fun w h => r4Clean_e y rfl _) rfl) ?_
    refine GSteps.cons (gm_valg (fun γ => .pointer (some ⟨(γ1 0), 6, none⟩)) rfl (fun _ => rfl) (fun _ => rfl) (fun γ w h => ex_field faG1_1 rfl) rfl) ?_
    refine GSteps.cons (gm_val (v := nv 6 [y.val]) rfl (fun _ => rfl) (fun _ => rfl) (fun γ w h => ex_loadsn (K := 6) 1 1 (m := [y.val]) flFp rfl rfl (A5.keep h.out) rfl rfl) rfl) ?_
    refine GSteps.cons (gm_val (v := .bool false) rfl (fun _ => rfl) (fun _ => rfl) (fun γ w h => ex_neqt (K := 6) (l := [y.val]) eqFp rfl rfl rfl rfl) rfl) ?_
    refine GSteps.cons (gm_val (v := .bool false) rfl (fun _ => rfl) (fun _ => rfl) (fun γ w h => ex_pick (r := false) rfl) rfl) ?_
    exact GSteps.nil
  intro _ w7 hb7 _ _
  refine th_r ?_
  have A8 := A5.keep hb7.out
  have HB9 := below_then HB6 hb7.out
  refine wp_cond_false rfl ?_
  refine wp_skip ?_
  refine th_r ?_
  refine wp_seq (region_m (F := fun γ => ⟨List.toArray ((sv [.n 6 x.val, .n 6 y.val, .b false]) :: (.pointer (some ⟨(γ1 0), 0, none⟩)) :: (.bool false) :: (.pointer (some ⟨γ 0, 0, none⟩)) :: (.pointer (some ⟨(γ1 0), 12, none⟩)) :: (.bool false) :: undef :: undef :: undef :: (.pointer (some ⟨(γ1 0), 0, none⟩)) :: (nv 6 [x.val]) :: (nv 6 [x.val]) :: (.pointer (some ⟨(γ1 0), 0, none⟩)) :: (nv 6 [x.val]) :: (.bool false) :: (.bool false) :: (.pointer (some ⟨(γ1 0), 6, none⟩)) :: (nv 6 [y.val]) :: (nv 6 [y.val]) :: (.pointer (some ⟨(γ1 0), 6, none⟩)) :: (nv 6 [y.val]) :: (.bool false) :: (.bool false) :: (.pointer (some ⟨(γ1 0), 0, none⟩)) :: (nv 6 [x.val]) :: (.pointer (some ⟨(γ1 0), 0, none⟩)) :: (nv 6 [x.val]) :: (.pointer (some ⟨(γ1 0), 0, none⟩)) :: (nv 6 [x.val]) :: (nv 6 [z1.val]) :: (nv 6 [z2.val]) :: undef :: undef :: undef :: undef :: undef :: undef :: undef :: undef :: undef :: []), []⟩) 1 (fun _ => 24) (fun _ => 8) (fun _ => 9) (fun _ => segs [.n 6 0]) (fun _ => segs [.n 6 z2.val]) [23, 24, 25, 26, 27, 28, 29, 30, 3] (.inl ⟨rfl, by kernel_rfl⟩) (by kernel_rfl) rfl rfl rfl ?_ ?_)
  · refine GSteps.cons (gm_valg (fun γ => .pointer (some ⟨(γ1 0), 0, none⟩)) rfl (fun _ => rfl) (fun _ => rfl) (fun γ w h => ex_field faG1_0 rfl) rfl) ?_
    refine GSteps.cons (gm_val (v := nv 6 [x.val]) rfl (fun _ => rfl) (fun _ => rfl) (fun γ w h => ex_loadsn (K := 6) 0 1 (m := [x.val]) flFp rfl rfl (A8.keep h.out) rfl rfl) rfl) ?_
    refine GSteps.cons (gm_valg (fun γ => .pointer (some ⟨(γ1 0), 0, none⟩)) rfl (fun _ => rfl) (fun _ => rfl) (fun γ w h => ex_field faG1_0 rfl) rfl) ?_
    refine GSteps.cons (gm_val (v := nv 6 [x.val]) rfl (fun _ => rfl) (fun _ => rfl) (fun γ w h => ex_loadsn (K := 6) 0 1 (m := [x.val]) flFp rfl rfl (A8.keep h.out) rfl rfl) rfl) ?_
    refine GSteps.cons (gm_valg (fun γ => .pointer (some ⟨(γ1 0), 0, none⟩)) rfl (fun _ => rfl) (fun _ => rfl) (fun γ w h => ex_field faG1_0 rfl) rfl) ?_
    refine GSteps.cons (gm_val (v := nv 6 [x.val]) rfl (fun _ => rfl) (fun _ => rfl) (fun γ w h => ex_loadsn (K := 6) 0 1 (m := [x.val]) flFp rfl rfl (A8.keep h.out) rfl rfl) rfl) ?_
    refine GSteps.cons (gm_call (v := nv 6 [z1.val]) rfl (fun _ => rfl) (fun _ => rfl) (fun γ w => ex_call (vs := [nv 6 [x.val], nv 6 [x.val]]) rfl Try.call28 rfl) (fun w h => r4Mul_e x x z1 rfl rfl ez1 _) rfl) ?_
    refine GSteps.cons (gm_call (v := nv 6 [z2.val]) rfl (fun _ => rfl) (fun _ => rfl) (fun γ w => ex_call (vs := [nv 6 [x.val], nv 6 [z1.val]]) rfl Try.call28 rfl) (fun w h => r4Mul_e x z1 z2 rfl rfl ez2 _) rfl) ?_
    refine GSteps.cons (gm_new 0 rfl (fun _ => rfl) (fun _ _ => rfl) (fun γ w => ex_allocsn (K := 6) (l := [0]) zFp) rfl (by kernel_rfl)) ?_
    refine GSteps.cons (gm_store 0 rfl rfl (fun _ => rfl) (len_segs (l := [.n 6 z2.val]) (l' := [.n 6 0]) rfl) (fun γ w h => ex_stores 0 1 (l := [.n 6 0]) (m := [.n 6 z2.val]) flFp.2 rfl rfl rfl (nv_cells 6 [z2.val]) h rfl rfl) rfl rfl (by kernel_rfl)) ?_
    exact GSteps.nil
  intro γ10 w10 hb10 hB10 _
  refine th_r ?_
  have A11 := A8.keep hb10.out
  have A12 : SB 24 w10 (γ10 0) [.n 6 z2.val] := (hB10 0 (by decide)).2
  have le12 := (hB10 0 (by decide)).1
  have HB13 := below_then HB9 hb10.out
  refine wp_seq (region_m (F := fun _ => ⟨List.toArray ((sv [.n 6 x.val, .n 6 y.val, .b false]) :: (.pointer (some ⟨(γ1 0), 0, none⟩)) :: (.bool r) :: (.pointer (some ⟨(γ10 0), 0, none⟩)) :: (.pointer (some ⟨(γ1 0), 12, none⟩)) :: (.bool false) :: undef :: undef :: undef :: (.pointer (some ⟨(γ1 0), 0, none⟩)) :: (nv 6 [x.val]) :: (nv 6 [x.val]) :: (.pointer (some ⟨(γ1 0), 0, none⟩)) :: (nv 6 [x.val]) :: (.bool false) :: (.bool false) :: (.pointer (some ⟨(γ1 0), 6, none⟩)) :: (nv 6 [y.val]) :: (nv 6 [y.val]) :: (.pointer (some ⟨(γ1 0), 6, none⟩)) :: (nv 6 [y.val]) :: (.bool false) :: (.bool false) :: (.pointer (some ⟨(γ1 0), 0, none⟩)) :: (nv 6 [x.val]) :: (.pointer (some ⟨(γ1 0), 0, none⟩)) :: (nv 6 [x.val]) :: (.pointer (some ⟨(γ1 0), 0, none⟩)) :: (nv 6 [x.val]) :: (nv 6 [z1.val]) :: (nv 6 [z2.val]) :: (.pointer (some ⟨(γ1 0), 6, none⟩)) :: (nv 6 [y.val]) :: (.pointer (some ⟨(γ1 0), 6, none⟩)) :: (nv 6 [y.val]) :: (nv 6 [z3.val]) :: (nv 6 [z2.val]) :: (nv 6 [4]) :: (nv 6 [z4.val]) :: (.bool r) :: []), []⟩) 0 (fun _ => 0) (fun _ => 0) (fun _ => 0) (fun _ => []) (fun _ => []) [31, 32, 33, 34, 35, 36, 37, 38, 39, 2] (.inl ⟨rfl, by kernel_rfl⟩) (by kernel_rfl) rfl rfl rfl ?_ ?_)
  · refine GSteps.cons (gm_valg (fun γ => .pointer (some ⟨(γ1 0), 6, none⟩)) rfl (fun _ => rfl) (fun _ => rfl) (fun γ w h => ex_field faG1_1 rfl) rfl) ?_
    refine GSteps.cons (gm_val (v := nv 6 [y.val]) rfl (fun _ => rfl) (fun _ => rfl) (fun γ w h => ex_loadsn (K := 6) 1 1 (m := [y.val]) flFp rfl rfl (A11.keep h.out) rfl rfl) rfl) ?_
    refine GSteps.cons (gm_valg (fun γ => .pointer (some ⟨(γ1 0), 6, none⟩)) rfl (fun _ => rfl) (fun _ => rfl) (fun γ w h => ex_field faG1_1 rfl) rfl) ?_
    refine GSteps.cons (gm_val (v := nv 6 [y.val]) rfl (fun _ => rfl) (fun _ => rfl) (fun γ w h => ex_loadsn (K := 6) 1 1 (m := [y.val]) flFp rfl rfl (A11.keep h.out) rfl rfl) rfl) ?_
    refine GSteps.cons (gm_call (v := nv 6 [z3.val]) rfl (fun _ => rfl) (fun _ => rfl) (fun γ w => ex_call (vs := [nv 6 [y.val], nv 6 [y.val]]) rfl Try.call28 rfl) (fun w h => r4Mul_e y y z3 rfl rfl ez3 _) rfl) ?_
    refine GSteps.cons (gm_val (v := nv 6 [z2.val]) rfl (fun _ => rfl) (fun _ => rfl) (fun γ w h => ex_loadsn (K := 6) 0 1 (m := [z2.val]) flFp rfl rfl (A12.keep h.out) rfl rfl) rfl) ?_
    refine GSteps.cons (gm_val (v := nv 6 [4]) rfl (fun _ => rfl) (fun _ => rfl) (fun γ w h => ex_limb6 (e := 4) (by decide) rfl) rfl) ?_
    refine GSteps.cons (gm_call (v := nv 6 [z4.val]) rfl (fun _ => rfl) (fun _ => rfl) (fun γ w => ex_call (vs := [nv 6 [z2.val], nv 6 [4]]) rfl Try.call29 rfl) (fun w h => r4Add_e z2 ((4 : Zp)) z4 rfl (zc 4 (small_P (by decide))) ez4 _) rfl) ?_
    refine GSteps.cons (gm_val (v := .bool r) rfl (fun _ => rfl) (fun _ => rfl) (fun γ w h => ex_eqz z3 z4 rfl rfl rfl rfl r (by subst ez4 ez3 ez2 ez1; rw [hr]; clear hr; constructor <;> intro h <;> grind)) rfl) ?_
    refine GSteps.cons (gm_val (v := .bool r) rfl (fun _ => rfl) (fun _ => rfl) (fun γ w h => ex_assign _) rfl) ?_
    exact GSteps.nil
  intro _ w14 hb14 _ _
  refine th_r ?_
  have A15 := A11.keep hb14.out
  have A16 := A12.keep hb14.out
  have HB17 := below_then HB13 hb14.out
  exact wp_ret (bodyPost_ret (ret1 Try.results9 (res_tmp rfl)) rfl ⟨rfl, HB17⟩)

/-- These numbers are a point that may be. -/
def RawOk (x y : Nat) (i : Bool) : Prop := ∃ P : E1, x = ax P.pt ∧ y = ay P.pt ∧ i = ai P.pt

theorem oneRight_p (P : E1) (w : World) : Calls Try.prog 11 #[sv [.n 6 (ax P.pt), .n 6 (ay P.pt), .b (ai P.pt)]] w (Is (.bool true) w) := by
  obtain ⟨P, hP⟩ := P
  cases P with
  | inf => exact oneRight_inf w
  | aff x y => exact oneRight_aff x y true ⟨fun _ => hP, fun _ => rfl⟩ w
theorem r8Right_p (P : E1) (w : World) : Calls Try.prog 9 #[sv [.n 6 (ax P.pt), .n 6 (ay P.pt), .b (ai P.pt)]] w (Is (.bool true) w) := by
  obtain ⟨P, hP⟩ := P
  cases P with
  | inf => exact r8Right_inf w
  | aff x y => exact r8Right_aff x y true ⟨fun _ => hP, fun _ => rfl⟩ w
theorem r8Right_no {x y : Nat} {i : Bool} (hx : x < fpB) (hy : y < fpB) (h : ¬ RawOk x y i) (w : World) : Calls Try.prog 9 #[sv [.n 6 x, .n 6 y, .b i]] w (Is (.bool false) w) := by
  cases i with
  | true => exact r8Right_rawinf x y hx hy (fun e => h ⟨EP.zero, e.1, e.2, rfl⟩) w
  | false =>
    by_cases h1 : x < pN
    · by_cases h2 : y < pN
      · exact r8Right_aff ⟨x, h1⟩ ⟨y, h2⟩ false ⟨fun e => Bool.noConfusion e, fun e => absurd ⟨⟨.aff ⟨x, h1⟩ ⟨y, h2⟩, e⟩, rfl, rfl, rfl⟩ h⟩ w
      · exact r8Right_rawy x y hx hy h1 h2 w
    · exact r8Right_rawx x y hx h1 w

theorem twelve : (12 : Zp) = 3 * 4 := by decide +kernel

set_option maxRecDepth 20000 in
set_option maxHeartbeats 4000000 in
theorem onejoined_p (P Q R : E1) (hs : P.add C1 Q = R) (w : World) :
    Calls Try.prog 34 #[sv [.n 6 (ax P.pt), .n 6 (ay P.pt), .b (ai P.pt)], sv [.n 6 (ax Q.pt), .n 6 (ay Q.pt), .b (ai Q.pt)], .func (.func 35) #[] #[]] w (Is (.tuple #[sv [.n 6 (ax R.pt), .n 6 (ay R.pt), .b (ai R.pt)], .int .i64 0]) w) := by
  obtain ⟨u, hu⟩ : ∃ u, u = plusT (12 : Zp) (oneTri P.pt) (oneTri Q.pt) := ⟨_, rfl⟩
  have hR : u.Is R.pt := by
    rw [hu, ← hs, twelve]
    exact plus_ok FdP hN1 P.on Q.on (oneTri_is _) (oneTri_is _) (EP.sum C1 P Q)
  go_enter Try.func34, Try.ntmps34
  refine wp_seq (region_m (F := fun γ => ⟨#[sv [.n 6 (ax P.pt), .n 6 (ay P.pt), .b (ai P.pt)], sv [.n 6 (ax Q.pt), .n 6 (ay Q.pt), .b (ai Q.pt)], .func (.func 35) #[] #[], .pointer (some ⟨γ 0, 0, none⟩), .pointer (some ⟨γ 1, 0, none⟩), undef, .pointer (some ⟨γ 2, 0, none⟩), .int .i64 0, undef, undef, undef, undef, undef, undef, undef, undef, undef, undef, undef, undef, undef, undef, undef, undef], []⟩) 3 (fun j_ => match j_ with | 0 => 26 | 1 => 26 | _ => 26) (fun j_ => match j_ with | 0 => 0 | 1 => 1 | _ => 2) (fun j_ => match j_ with | 0 => 0 | 1 => 1 | _ => 2) (fun j_ => match j_ with | 0 => segs [.n 6 (ax P.pt), .n 6 (ay P.pt), .b (ai P.pt)] | 1 => segs [.n 6 (ax Q.pt), .n 6 (ay Q.pt), .b (ai Q.pt)] | _ => segs [.n 6 0, .n 6 0, .b false]) (fun j_ => match j_ with | 0 => segs [.n 6 (ax P.pt), .n 6 (ay P.pt), .b (ai P.pt)] | 1 => segs [.n 6 (ax Q.pt), .n 6 (ay Q.pt), .b (ai Q.pt)] | _ => segs [.n 6 0, .n 6 0, .b false]) [3, 4, 6, 7] (.inr ⟨rfl, by kernel_rfl⟩) (by kernel_rfl) rfl rfl rfl ?_ ?_)
  · refine GSteps.cons (gm_box 0 rfl (fun _ => rfl) (fun _ _ => rfl) (fun γ w h => ex_boxs (l := [.n 6 (ax P.pt), .n 6 (ay P.pt), .b (ai P.pt)]) rfl) rfl rfl rfl) ?_
    refine GSteps.cons (gm_box 1 rfl (fun _ => rfl) (fun _ _ => rfl) (fun γ w h => ex_boxs (l := [.n 6 (ax Q.pt), .n 6 (ay Q.pt), .b (ai Q.pt)]) rfl) rfl rfl rfl) ?_
    refine GSteps.cons (gm_box 2 rfl (fun _ => rfl) (fun _ _ => rfl) (fun γ w h => ex_allocs (l := [.n 6 0, .n 6 0, .b false]) zG1) rfl rfl rfl) ?_
    refine GSteps.cons (gm_val (v := .int .i64 0) rfl (fun _ => rfl) (fun _ => rfl) (fun γ w h => ex_assign _) rfl) ?_
    exact GSteps.nil
  intro γ1 w1 hb1 hB1 hn1
  refine th_r ?_
  have A2 : SB 26 w1 (γ1 0) [.n 6 (ax P.pt), .n 6 (ay P.pt), .b (ai P.pt)] := (hB1 0 (by decide)).2
  have le2 := (hB1 0 (by decide)).1
  have A3 : SB 26 w1 (γ1 1) [.n 6 (ax Q.pt), .n 6 (ay Q.pt), .b (ai Q.pt)] := (hB1 1 (by decide)).2
  have le3 := (hB1 1 (by decide)).1
  have A4 : SB 26 w1 (γ1 2) [.n 6 0, .n 6 0, .b false] := (hB1 2 (by decide)).2
  have le4 := (hB1 2 (by decide)).1
  have HB5 := below_then (Below.refl w.heap.size w) hb1.out
  refine wp_seq ?_
  refine wp_seq (region_m (F := fun _ => ⟨#[sv [.n 6 (ax P.pt), .n 6 (ay P.pt), .b (ai P.pt)], sv [.n 6 (ax Q.pt), .n 6 (ay Q.pt), .b (ai Q.pt)], .func (.func 35) #[] #[], .pointer (some ⟨(γ1 0), 0, none⟩), .pointer (some ⟨(γ1 1), 0, none⟩), undef, .pointer (some ⟨(γ1 2), 0, none⟩), .int .i64 0, sv [.n 6 (ax P.pt), .n 6 (ay P.pt), .b (ai P.pt)], .bool true, .bool false, .bool false, sv [.n 6 (ax Q.pt), .n 6 (ay Q.pt), .b (ai Q.pt)], .bool true, .bool false, .bool false, undef, undef, undef, undef, undef, undef, undef, undef], []⟩) 0 (fun _ => 0) (fun _ => 0) (fun _ => 0) (fun _ => []) (fun _ => []) [8, 9, 10, 11, 12, 13, 14, 15] (.inr ⟨rfl, by kernel_rfl⟩) (by kernel_rfl) rfl rfl rfl ?_ ?_)
  · refine GSteps.cons (gm_val (v := sv [.n 6 (ax P.pt), .n 6 (ay P.pt), .b (ai P.pt)]) rfl (fun _ => rfl) (fun _ => rfl) (fun γ w h => ex_loads 0 3 (m := [.n 6 (ax P.pt), .n 6 (ay P.pt), .b (ai P.pt)]) flG1 rfl rfl (A2.keep h.out) rfl rfl) rfl) ?_
    refine GSteps.cons (gm_call (v := .bool true) rfl (fun _ => rfl) (fun _ => rfl) (fun γ w => ex_call (vs := [sv [.n 6 (ax P.pt), .n 6 (ay P.pt), .b (ai P.pt)]]) rfl Try.call11 rfl) (fun w h => oneRight_p P _) rfl) ?_
    refine GSteps.cons (gm_val (v := .bool false) rfl (fun _ => rfl) (fun _ => rfl) (fun γ w h => ex_not (r := true) rfl) rfl) ?_
    refine GSteps.cons (gm_val (v := .bool false) rfl (fun _ => rfl) (fun _ => rfl) (fun γ w h => ex_move _) rfl) ?_
    refine GSteps.cons (gm_val (v := sv [.n 6 (ax Q.pt), .n 6 (ay Q.pt), .b (ai Q.pt)]) rfl (fun _ => rfl) (fun _ => rfl) (fun γ w h => ex_loads 0 3 (m := [.n 6 (ax Q.pt), .n 6 (ay Q.pt), .b (ai Q.pt)]) flG1 rfl rfl (A3.keep h.out) rfl rfl) rfl) ?_
    refine GSteps.cons (gm_call (v := .bool true) rfl (fun _ => rfl) (fun _ => rfl) (fun γ w => ex_call (vs := [sv [.n 6 (ax Q.pt), .n 6 (ay Q.pt), .b (ai Q.pt)]]) rfl Try.call11 rfl) (fun w h => oneRight_p Q _) rfl) ?_
    refine GSteps.cons (gm_val (v := .bool false) rfl (fun _ => rfl) (fun _ => rfl) (fun γ w h => ex_not (r := true) rfl) rfl) ?_
    refine GSteps.cons (gm_val (v := .bool false) rfl (fun _ => rfl) (fun _ => rfl) (fun γ w h => ex_pick (r := false) rfl) rfl) ?_
    exact GSteps.nil
  intro _ w6 hb6 _ _
  refine th_r ?_
  have A7 := A2.keep hb6.out
  have A8 := A3.keep hb6.out
  have A9 := A4.keep hb6.out
  have HB10 := below_then HB5 hb6.out
  refine wp_cond_false rfl ?_
  refine wp_skip ?_
  refine th_r ?_
  refine wp_seq (region_ms (F := fun _ => ⟨#[sv [.n 6 (ax P.pt), .n 6 (ay P.pt), .b (ai P.pt)], sv [.n 6 (ax Q.pt), .n 6 (ay Q.pt), .b (ai Q.pt)], .func (.func 35) #[] #[], .pointer (some ⟨(γ1 0), 0, none⟩), .pointer (some ⟨(γ1 1), 0, none⟩), undef, .pointer (some ⟨(γ1 2), 0, none⟩), .int .i64 0, sv [.n 6 (ax P.pt), .n 6 (ay P.pt), .b (ai P.pt)], .bool true, .bool false, .bool false, sv [.n 6 (ax Q.pt), .n 6 (ay Q.pt), .b (ai Q.pt)], .bool true, .bool false, .bool false, undef, .func (.func 35) #[] #[], sv [.n 6 (ax P.pt), .n 6 (ay P.pt), .b (ai P.pt)], sv [.n 6 (((oneTri P.pt).x).val), .n 6 (((oneTri P.pt).y).val), .n 6 (((oneTri P.pt).z).val)], sv [.n 6 (ax Q.pt), .n 6 (ay Q.pt), .b (ai Q.pt)], sv [.n 6 (((oneTri Q.pt).x).val), .n 6 (((oneTri Q.pt).y).val), .n 6 (((oneTri Q.pt).z).val)], sv [.n 6 u.x.val, .n 6 u.y.val, .n 6 u.z.val], sv [.n 6 (ax R.pt), .n 6 (ay R.pt), .b (ai R.pt)]], []⟩) 7 ((γ1 2)) 0 (segs [.n 6 (ax R.pt), .n 6 (ay R.pt), .b (ai R.pt)]) 0 (fun _ => 0) (fun _ => 0) (fun _ => 0) (fun _ => []) (fun _ => []) [17, 18, 19, 20, 21, 22, 23, 7] (.inl ⟨rfl, by kernel_rfl⟩) (by kernel_rfl) rfl rfl rfl ?_ ?_)
  · refine GSteps.cons (late_step (gm_val (v := .func (.func 35) #[] #[]) rfl (fun _ => rfl) (fun _ => rfl) (fun γ w h => ex_move _) rfl) (by kernel_rfl) rfl) ?_
    refine GSteps.cons (late_step (gm_val (v := sv [.n 6 (ax P.pt), .n 6 (ay P.pt), .b (ai P.pt)]) rfl (fun _ => rfl) (fun _ => rfl) (fun γ w h => ex_loads 0 3 (m := [.n 6 (ax P.pt), .n 6 (ay P.pt), .b (ai P.pt)]) flG1 rfl rfl (A7.keep h.out) rfl rfl) rfl) (by kernel_rfl) rfl) ?_
    refine GSteps.cons (late_step (gm_call (v := sv [.n 6 (((oneTri P.pt).x).val), .n 6 (((oneTri P.pt).y).val), .n 6 (((oneTri P.pt).z).val)]) rfl (fun _ => rfl) (fun _ => rfl) (fun γ w => ex_call (vs := [sv [.n 6 (ax P.pt), .n 6 (ay P.pt), .b (ai P.pt)]]) rfl Try.call41 rfl) (fun w h => onebring_q P.pt _) rfl) (by kernel_rfl) rfl) ?_
    refine GSteps.cons (late_step (gm_val (v := sv [.n 6 (ax Q.pt), .n 6 (ay Q.pt), .b (ai Q.pt)]) rfl (fun _ => rfl) (fun _ => rfl) (fun γ w h => ex_loads 0 3 (m := [.n 6 (ax Q.pt), .n 6 (ay Q.pt), .b (ai Q.pt)]) flG1 rfl rfl (A8.keep h.out) rfl rfl) rfl) (by kernel_rfl) rfl) ?_
    refine GSteps.cons (late_step (gm_call (v := sv [.n 6 (((oneTri Q.pt).x).val), .n 6 (((oneTri Q.pt).y).val), .n 6 (((oneTri Q.pt).z).val)]) rfl (fun _ => rfl) (fun _ => rfl) (fun γ w => ex_call (vs := [sv [.n 6 (ax Q.pt), .n 6 (ay Q.pt), .b (ai Q.pt)]]) rfl Try.call41 rfl) (fun w h => onebring_q Q.pt _) rfl) (by kernel_rfl) rfl) ?_
    refine GSteps.cons (late_step (gm_call (v := sv [.n 6 u.x.val, .n 6 u.y.val, .n 6 u.z.val]) rfl (fun _ => rfl) (fun _ => rfl) (fun γ w => ex_call (vs := [sv [.n 6 (((oneTri P.pt).x).val), .n 6 (((oneTri P.pt).y).val), .n 6 (((oneTri P.pt).z).val)], sv [.n 6 (((oneTri Q.pt).x).val), .n 6 (((oneTri Q.pt).y).val), .n 6 (((oneTri Q.pt).z).val)]]) rfl Try.call35 rfl) (fun w h => oneplus_q hu _) rfl) (by kernel_rfl) rfl) ?_
    refine GSteps.cons (late_step (gm_call (v := sv [.n 6 (ax R.pt), .n 6 (ay R.pt), .b (ai R.pt)]) rfl (fun _ => rfl) (fun _ => rfl) (fun γ w => ex_call (vs := [sv [.n 6 u.x.val, .n 6 u.y.val, .n 6 u.z.val]]) rfl Try.call43 rfl) (fun w h => oneback_q hR _) rfl) (by kernel_rfl) rfl) ?_
    refine GSteps.cons (late_store rfl (fun _ => rfl) (fun γ w h => ex_stores 0 3 (l := [.n 6 0, .n 6 0, .b false]) (m := [.n 6 (ax R.pt), .n 6 (ay R.pt), .b (ai R.pt)]) flG1.2 rfl rfl rfl rfl (A9.keep h.out) rfl rfl) rfl) ?_
    refine GSteps.cons (late_free (v := .int .i64 0) rfl (fun _ => rfl) (fun _ => rfl) (fun γ w => ex_assign _) rfl rfl) ?_
    exact GSteps.nil
  intro _ w11 w11_ hb11 _ _ hs11
  refine th_r ?_
  have A12 := A7.keep hb11.out
  have A13 := A8.keep hb11.out
  have A14 := A9.keep hb11.out
  have HB15 := below_then HB10 hb11.out
  have A16 := hs11.other (hn1 0 2 (by decide) (by decide) (by decide)) A12
  have A17 := hs11.other (hn1 1 2 (by decide) (by decide) (by decide)) A13
  have A18 := hs11.here 0 3 (l' := [.n 6 (ax R.pt), .n 6 (ay R.pt), .b (ai R.pt)]) A14 rfl rfl rfl
  have HB19 := hs11.below HB15 (Nat.le_trans (Nat.le_refl _) le4)
  exact wp_ret (bodyPost_ret (ret2 Try.results34 (res_sv rfl A18 flG1 rfl) (res_tmp rfl)) rfl ⟨rfl, HB19⟩)

set_option maxRecDepth 20000 in
set_option maxHeartbeats 4000000 in
theorem oneAdd_p (P Q R : E1) (hs : P.add C1 Q = R) (w : World) :
    Calls Try.prog 15 #[sv [.n 6 (ax P.pt), .n 6 (ay P.pt), .b (ai P.pt)], sv [.n 6 (ax Q.pt), .n 6 (ay Q.pt), .b (ai Q.pt)]] w (Is (.tuple #[sv [.n 6 (ax R.pt), .n 6 (ay R.pt), .b (ai R.pt)], .int .i64 0]) w) := by
  go_enter Try.func15, Try.ntmps15
  refine wp_seq (region_m (F := fun γ => ⟨#[sv [.n 6 (ax P.pt), .n 6 (ay P.pt), .b (ai P.pt)], sv [.n 6 (ax Q.pt), .n 6 (ay Q.pt), .b (ai Q.pt)], .pointer (some ⟨γ 0, 0, none⟩), .pointer (some ⟨γ 1, 0, none⟩), .pointer (some ⟨γ 2, 0, none⟩), .int .i64 0, undef, undef, undef, undef, undef], []⟩) 3 (fun j_ => match j_ with | 0 => 26 | 1 => 26 | _ => 26) (fun j_ => match j_ with | 0 => 0 | 1 => 1 | _ => 2) (fun j_ => match j_ with | 0 => 0 | 1 => 1 | _ => 2) (fun j_ => match j_ with | 0 => segs [.n 6 (ax P.pt), .n 6 (ay P.pt), .b (ai P.pt)] | 1 => segs [.n 6 (ax Q.pt), .n 6 (ay Q.pt), .b (ai Q.pt)] | _ => segs [.n 6 0, .n 6 0, .b false]) (fun j_ => match j_ with | 0 => segs [.n 6 (ax P.pt), .n 6 (ay P.pt), .b (ai P.pt)] | 1 => segs [.n 6 (ax Q.pt), .n 6 (ay Q.pt), .b (ai Q.pt)] | _ => segs [.n 6 0, .n 6 0, .b false]) [2, 3, 4, 5] (.inr ⟨rfl, by kernel_rfl⟩) (by kernel_rfl) rfl rfl rfl ?_ ?_)
  · refine GSteps.cons (gm_box 0 rfl (fun _ => rfl) (fun _ _ => rfl) (fun γ w h => ex_boxs (l := [.n 6 (ax P.pt), .n 6 (ay P.pt), .b (ai P.pt)]) rfl) rfl rfl rfl) ?_
    refine GSteps.cons (gm_box 1 rfl (fun _ => rfl) (fun _ _ => rfl) (fun γ w h => ex_boxs (l := [.n 6 (ax Q.pt), .n 6 (ay Q.pt), .b (ai Q.pt)]) rfl) rfl rfl rfl) ?_
    refine GSteps.cons (gm_box 2 rfl (fun _ => rfl) (fun _ _ => rfl) (fun γ w h => ex_allocs (l := [.n 6 0, .n 6 0, .b false]) zG1) rfl rfl rfl) ?_
    refine GSteps.cons (gm_val (v := .int .i64 0) rfl (fun _ => rfl) (fun _ => rfl) (fun γ w h => ex_assign _) rfl) ?_
    exact GSteps.nil
  intro γ1 w1 hb1 hB1 hn1
  refine th_r ?_
  have A2 : SB 26 w1 (γ1 0) [.n 6 (ax P.pt), .n 6 (ay P.pt), .b (ai P.pt)] := (hB1 0 (by decide)).2
  have le2 := (hB1 0 (by decide)).1
  have A3 : SB 26 w1 (γ1 1) [.n 6 (ax Q.pt), .n 6 (ay Q.pt), .b (ai Q.pt)] := (hB1 1 (by decide)).2
  have le3 := (hB1 1 (by decide)).1
  have A4 : SB 26 w1 (γ1 2) [.n 6 0, .n 6 0, .b false] := (hB1 2 (by decide)).2
  have le4 := (hB1 2 (by decide)).1
  have HB5 := below_then (Below.refl w.heap.size w) hb1.out
  refine wp_seq (region_ms (F := fun _ => ⟨#[sv [.n 6 (ax P.pt), .n 6 (ay P.pt), .b (ai P.pt)], sv [.n 6 (ax Q.pt), .n 6 (ay Q.pt), .b (ai Q.pt)], .pointer (some ⟨(γ1 0), 0, none⟩), .pointer (some ⟨(γ1 1), 0, none⟩), .pointer (some ⟨(γ1 2), 0, none⟩), .int .i64 0, sv [.n 6 (ax P.pt), .n 6 (ay P.pt), .b (ai P.pt)], sv [.n 6 (ax Q.pt), .n 6 (ay Q.pt), .b (ai Q.pt)], .tuple #[sv [.n 6 (ax R.pt), .n 6 (ay R.pt), .b (ai R.pt)], .int .i64 0], sv [.n 6 (ax R.pt), .n 6 (ay R.pt), .b (ai R.pt)], .int .i64 0], []⟩) 5 ((γ1 2)) 0 (segs [.n 6 (ax R.pt), .n 6 (ay R.pt), .b (ai R.pt)]) 0 (fun _ => 0) (fun _ => 0) (fun _ => 0) (fun _ => []) (fun _ => []) [6, 7, 8, 9, 10, 5] (.inr ⟨rfl, by kernel_rfl⟩) (by kernel_rfl) rfl rfl rfl ?_ ?_)
  · refine GSteps.cons (late_step (gm_val (v := sv [.n 6 (ax P.pt), .n 6 (ay P.pt), .b (ai P.pt)]) rfl (fun _ => rfl) (fun _ => rfl) (fun γ w h => ex_loads 0 3 (m := [.n 6 (ax P.pt), .n 6 (ay P.pt), .b (ai P.pt)]) flG1 rfl rfl (A2.keep h.out) rfl rfl) rfl) (by kernel_rfl) rfl) ?_
    refine GSteps.cons (late_step (gm_val (v := sv [.n 6 (ax Q.pt), .n 6 (ay Q.pt), .b (ai Q.pt)]) rfl (fun _ => rfl) (fun _ => rfl) (fun γ w h => ex_loads 0 3 (m := [.n 6 (ax Q.pt), .n 6 (ay Q.pt), .b (ai Q.pt)]) flG1 rfl rfl (A3.keep h.out) rfl rfl) rfl) (by kernel_rfl) rfl) ?_
    refine GSteps.cons (late_step (gm_call (v := .tuple #[sv [.n 6 (ax R.pt), .n 6 (ay R.pt), .b (ai R.pt)], .int .i64 0]) rfl (fun _ => rfl) (fun _ => rfl) (fun γ w => ex_call (vs := [sv [.n 6 (ax P.pt), .n 6 (ay P.pt), .b (ai P.pt)], sv [.n 6 (ax Q.pt), .n 6 (ay Q.pt), .b (ai Q.pt)], .func (.func 35) #[] #[]]) rfl Try.call34 rfl) (fun w h => onejoined_p P Q R hs _) rfl) (by kernel_rfl) rfl) ?_
    refine GSteps.cons (late_step (gm_val (v := sv [.n 6 (ax R.pt), .n 6 (ay R.pt), .b (ai R.pt)]) rfl (fun _ => rfl) (fun _ => rfl) (fun γ w h => ex_extract (vs := [sv [.n 6 (ax R.pt), .n 6 (ay R.pt), .b (ai R.pt)], .int .i64 0]) rfl rfl) rfl) (by kernel_rfl) rfl) ?_
    refine GSteps.cons (late_step (gm_val (v := .int .i64 0) rfl (fun _ => rfl) (fun _ => rfl) (fun γ w h => ex_extract (vs := [sv [.n 6 (ax R.pt), .n 6 (ay R.pt), .b (ai R.pt)], .int .i64 0]) rfl rfl) rfl) (by kernel_rfl) rfl) ?_
    refine GSteps.cons (late_store rfl (fun _ => rfl) (fun γ w h => ex_stores 0 3 (l := [.n 6 0, .n 6 0, .b false]) (m := [.n 6 (ax R.pt), .n 6 (ay R.pt), .b (ai R.pt)]) flG1.2 rfl rfl rfl rfl (A4.keep h.out) rfl rfl) rfl) ?_
    refine GSteps.cons (late_free (v := .int .i64 0) rfl (fun _ => rfl) (fun _ => rfl) (fun γ w => ex_assign _) rfl rfl) ?_
    exact GSteps.nil
  intro _ w6 w6_ hb6 _ _ hs6
  refine th_r ?_
  have A7 := A2.keep hb6.out
  have A8 := A3.keep hb6.out
  have A9 := A4.keep hb6.out
  have HB10 := below_then HB5 hb6.out
  have A11 := hs6.other (hn1 0 2 (by decide) (by decide) (by decide)) A7
  have A12 := hs6.other (hn1 1 2 (by decide) (by decide) (by decide)) A8
  have A13 := hs6.here 0 3 (l' := [.n 6 (ax R.pt), .n 6 (ay R.pt), .b (ai R.pt)]) A9 rfl rfl rfl
  have HB14 := hs6.below HB10 (Nat.le_trans (Nat.le_refl _) le4)
  exact wp_ret (bodyPost_ret (ret2 Try.results15 (res_sv rfl A13 flG1 rfl) (res_tmp rfl)) rfl ⟨rfl, HB14⟩)

theorem fpNeg_pt (P : Pt Zp) (w : World) : Calls Try.prog 36 #[nv 6 [ay P]] w (Is (nv 6 [ay (ng P)]) w) := by
  cases P with
  | inf => exact fpNeg_n 0 w zero_B 0 (by decide +kernel)
  | aff x y => exact fpNeg_e y (-y) rfl rfl w
set_option maxRecDepth 20000 in
set_option maxHeartbeats 4000000 in
theorem oneNeg_raw (P : E1) (w : World) :
    Calls Try.prog 16 #[sv [.n 6 (ax P.pt), .n 6 (ay P.pt), .b (ai P.pt)]] w (Is (.tuple #[sv [.n 6 (ax P.pt), .n 6 (ay (ng P.pt)), .b (ai P.pt)], .int .i64 0]) w) := by
  go_enter Try.func16, Try.ntmps16
  refine wp_seq (region_m (F := fun γ => ⟨#[sv [.n 6 (ax P.pt), .n 6 (ay P.pt), .b (ai P.pt)], .pointer (some ⟨γ 0, 0, none⟩), .pointer (some ⟨γ 1, 0, none⟩), .int .i64 0, undef, undef, undef, undef, undef, undef, undef, undef, undef], []⟩) 2 (fun j_ => match j_ with | 0 => 26 | _ => 26) (fun j_ => match j_ with | 0 => 0 | _ => 1) (fun j_ => match j_ with | 0 => 0 | _ => 1) (fun j_ => match j_ with | 0 => segs [.n 6 (ax P.pt), .n 6 (ay P.pt), .b (ai P.pt)] | _ => segs [.n 6 0, .n 6 0, .b false]) (fun j_ => match j_ with | 0 => segs [.n 6 (ax P.pt), .n 6 (ay P.pt), .b (ai P.pt)] | _ => segs [.n 6 0, .n 6 0, .b false]) [1, 2, 3] (.inr ⟨rfl, by kernel_rfl⟩) (by kernel_rfl) rfl rfl rfl ?_ ?_)
  · refine GSteps.cons (gm_box 0 rfl (fun _ => rfl) (fun _ _ => rfl) (fun γ w h => ex_boxs (l := [.n 6 (ax P.pt), .n 6 (ay P.pt), .b (ai P.pt)]) rfl) rfl rfl rfl) ?_
    refine GSteps.cons (gm_box 1 rfl (fun _ => rfl) (fun _ _ => rfl) (fun γ w h => ex_allocs (l := [.n 6 0, .n 6 0, .b false]) zG1) rfl rfl rfl) ?_
    refine GSteps.cons (gm_val (v := .int .i64 0) rfl (fun _ => rfl) (fun _ => rfl) (fun γ w h => ex_assign _) rfl) ?_
    exact GSteps.nil
  intro γ1 w1 hb1 hB1 hn1
  refine th_r ?_
  have A2 : SB 26 w1 (γ1 0) [.n 6 (ax P.pt), .n 6 (ay P.pt), .b (ai P.pt)] := (hB1 0 (by decide)).2
  have le2 := (hB1 0 (by decide)).1
  have A3 : SB 26 w1 (γ1 1) [.n 6 0, .n 6 0, .b false] := (hB1 1 (by decide)).2
  have le3 := (hB1 1 (by decide)).1
  have HB4 := below_then (Below.refl w.heap.size w) hb1.out
  refine wp_seq ?_
  refine wp_seq (region_m (F := fun _ => ⟨#[sv [.n 6 (ax P.pt), .n 6 (ay P.pt), .b (ai P.pt)], .pointer (some ⟨(γ1 0), 0, none⟩), .pointer (some ⟨(γ1 1), 0, none⟩), .int .i64 0, sv [.n 6 (ax P.pt), .n 6 (ay P.pt), .b (ai P.pt)], .bool true, .bool false, undef, undef, undef, undef, undef, undef], []⟩) 0 (fun _ => 0) (fun _ => 0) (fun _ => 0) (fun _ => []) (fun _ => []) [4, 5, 6] (.inr ⟨rfl, by kernel_rfl⟩) (by kernel_rfl) rfl rfl rfl ?_ ?_)
  · refine GSteps.cons (gm_val (v := sv [.n 6 (ax P.pt), .n 6 (ay P.pt), .b (ai P.pt)]) rfl (fun _ => rfl) (fun _ => rfl) (fun γ w h => ex_loads 0 3 (m := [.n 6 (ax P.pt), .n 6 (ay P.pt), .b (ai P.pt)]) flG1 rfl rfl (A2.keep h.out) rfl rfl) rfl) ?_
    refine GSteps.cons (gm_call (v := .bool true) rfl (fun _ => rfl) (fun _ => rfl) (fun γ w => ex_call (vs := [sv [.n 6 (ax P.pt), .n 6 (ay P.pt), .b (ai P.pt)]]) rfl Try.call11 rfl) (fun w h => oneRight_p P _) rfl) ?_
    refine GSteps.cons (gm_val (v := .bool false) rfl (fun _ => rfl) (fun _ => rfl) (fun γ w h => ex_not (r := true) rfl) rfl) ?_
    exact GSteps.nil
  intro _ w5 hb5 _ _
  refine th_r ?_
  have A6 := A2.keep hb5.out
  have A7 := A3.keep hb5.out
  have HB8 := below_then HB4 hb5.out
  refine wp_cond_false rfl ?_
  refine wp_skip ?_
  refine th_r ?_
  refine wp_seq (region_ms (F := fun _ => ⟨#[sv [.n 6 (ax P.pt), .n 6 (ay P.pt), .b (ai P.pt)], .pointer (some ⟨(γ1 0), 0, none⟩), .pointer (some ⟨(γ1 1), 0, none⟩), .int .i64 0, sv [.n 6 (ax P.pt), .n 6 (ay P.pt), .b (ai P.pt)], .bool true, .bool false, undef, .pointer (some ⟨(γ1 0), 6, none⟩), nv 6 [ay P.pt], nv 6 [ay (ng P.pt)], .pointer (some ⟨(γ1 0), 6, none⟩), undef], []⟩) 4 ((γ1 0)) 6 (segs [.n 6 (ay (ng P.pt))]) 0 (fun _ => 0) (fun _ => 0) (fun _ => 0) (fun _ => []) (fun _ => []) [8, 9, 10, 11] (.inr ⟨rfl, by kernel_rfl⟩) (by kernel_rfl) rfl rfl rfl ?_ ?_)
  · refine GSteps.cons (late_step (gm_valg (fun γ => .pointer (some ⟨(γ1 0), 6, none⟩)) rfl (fun _ => rfl) (fun _ => rfl) (fun γ w h => ex_field faG1_1 rfl) rfl) (by kernel_rfl) rfl) ?_
    refine GSteps.cons (late_step (gm_val (v := nv 6 [ay P.pt]) rfl (fun _ => rfl) (fun _ => rfl) (fun γ w h => ex_loadsn (K := 6) 1 1 (m := [ay P.pt]) flFp rfl rfl (A6.keep h.out) rfl rfl) rfl) (by kernel_rfl) rfl) ?_
    refine GSteps.cons (late_step (gm_call (v := nv 6 [ay (ng P.pt)]) rfl (fun _ => rfl) (fun _ => rfl) (fun γ w => ex_call (vs := [nv 6 [ay P.pt]]) rfl Try.call36 rfl) (fun w h => fpNeg_pt P.pt _) rfl) (by kernel_rfl) rfl) ?_
    refine GSteps.cons (late_step (gm_valg (fun γ => .pointer (some ⟨(γ1 0), 6, none⟩)) rfl (fun _ => rfl) (fun _ => rfl) (fun γ w h => ex_field faG1_1 rfl) rfl) (by kernel_rfl) rfl) ?_
    refine GSteps.cons (late_store rfl (fun _ => rfl) (fun γ w h => ex_stores 1 1 (l := [.n 6 (ax P.pt), .n 6 (ay P.pt), .b (ai P.pt)]) (m := [.n 6 (ay (ng P.pt))]) flFp.2 rfl rfl rfl (nv_cells 6 [ay (ng P.pt)]) (A6.keep h.out) rfl rfl) rfl) ?_
    exact GSteps.nil
  intro _ w9 w9_ hb9 _ _ hs9
  refine th_r ?_
  have A10 := A6.keep hb9.out
  have A11 := A7.keep hb9.out
  have HB12 := below_then HB8 hb9.out
  have A13 := hs9.here 1 1 (l' := [.n 6 (ax P.pt), .n 6 (ay (ng P.pt)), .b (ai P.pt)]) A10 rfl rfl rfl
  have A14 := hs9.other (Ne.symm (hn1 0 1 (by decide) (by decide) (by decide))) A11
  have HB15 := hs9.below HB12 (Nat.le_trans (Nat.le_refl _) le2)
  refine wp_seq (region_ms (F := fun _ => ⟨#[sv [.n 6 (ax P.pt), .n 6 (ay P.pt), .b (ai P.pt)], .pointer (some ⟨(γ1 0), 0, none⟩), .pointer (some ⟨(γ1 1), 0, none⟩), .int .i64 0, sv [.n 6 (ax P.pt), .n 6 (ay P.pt), .b (ai P.pt)], .bool true, .bool false, undef, .pointer (some ⟨(γ1 0), 6, none⟩), nv 6 [ay P.pt], nv 6 [ay (ng P.pt)], .pointer (some ⟨(γ1 0), 6, none⟩), sv [.n 6 (ax P.pt), .n 6 (ay (ng P.pt)), .b (ai P.pt)]], []⟩) 1 ((γ1 1)) 0 (segs [.n 6 (ax P.pt), .n 6 (ay (ng P.pt)), .b (ai P.pt)]) 0 (fun _ => 0) (fun _ => 0) (fun _ => 0) (fun _ => []) (fun _ => []) [12, 3] (.inr ⟨rfl, by kernel_rfl⟩) (by kernel_rfl) rfl rfl rfl ?_ ?_)
  · refine GSteps.cons (late_step (gm_val (v := sv [.n 6 (ax P.pt), .n 6 (ay (ng P.pt)), .b (ai P.pt)]) rfl (fun _ => rfl) (fun _ => rfl) (fun γ w h => ex_loads 0 3 (m := [.n 6 (ax P.pt), .n 6 (ay (ng P.pt)), .b (ai P.pt)]) flG1 rfl rfl (A13.keep h.out) rfl rfl) rfl) (by kernel_rfl) rfl) ?_
    refine GSteps.cons (late_store rfl (fun _ => rfl) (fun γ w h => ex_stores 0 3 (l := [.n 6 0, .n 6 0, .b false]) (m := [.n 6 (ax P.pt), .n 6 (ay (ng P.pt)), .b (ai P.pt)]) flG1.2 rfl rfl rfl rfl (A14.keep h.out) rfl rfl) rfl) ?_
    refine GSteps.cons (late_free (v := .int .i64 0) rfl (fun _ => rfl) (fun _ => rfl) (fun γ w => ex_assign _) rfl rfl) ?_
    exact GSteps.nil
  intro _ w16 w16_ hb16 _ _ hs16
  refine th_r ?_
  have A17 := A13.keep hb16.out
  have A18 := A14.keep hb16.out
  have HB19 := below_then HB15 hb16.out
  have A20 := hs16.other (hn1 0 1 (by decide) (by decide) (by decide)) A17
  have A21 := hs16.here 0 3 (l' := [.n 6 (ax P.pt), .n 6 (ay (ng P.pt)), .b (ai P.pt)]) A18 rfl rfl rfl
  have HB22 := hs16.below HB19 (Nat.le_trans (Nat.le_refl _) le3)
  exact wp_ret (bodyPost_ret (ret2 Try.results16 (res_sv rfl A21 flG1 rfl) (res_tmp rfl)) rfl ⟨rfl, HB22⟩)

theorem oneNeg_p' (P : E1) (w : World) : Calls Try.prog 16 #[sv [.n 6 (ax P.pt), .n 6 (ay P.pt), .b (ai P.pt)]] w (Is (.tuple #[sv [.n 6 (ax P.neg.pt), .n 6 (ay P.neg.pt), .b (ai P.neg.pt)], .int .i64 0]) w) := by
  have h := oneNeg_raw P w
  obtain ⟨P, hP⟩ := P
  cases P with
  | inf => exact h
  | aff x y => exact h
theorem oneNeg_q (P R : E1) (h : P.neg = R) (w : World) : Calls Try.prog 16 #[sv [.n 6 (ax P.pt), .n 6 (ay P.pt), .b (ai P.pt)]] w (Is (.tuple #[sv [.n 6 (ax R.pt), .n 6 (ay R.pt), .b (ai R.pt)], .int .i64 0]) w) := by
  subst h
  exact oneNeg_p' P w
end Go.Proofs.Yticglgegfebnjaa

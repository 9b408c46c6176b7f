/- What is proved here: what the functions of package two on three numbers answer; which points of package two may be; sums and negatives of points. -/
import Derived.Test.YtmhieifjmgcbkaaTwoZ
import Derived.Test.YtmhieifjmgcbkaaCells
import Derived.Test.YtmhieifjmgcbkaaLit
import Derived.Test.YtmhieifjmgcbkaaBitsDown
import Derived.Test.YtmhieifjmgcbkaaAgg
import Derived.Test.YtmhieifjmgcbkaaNum
import Derived.ChangeKeysEq
import Derived.Test.YtmhieifjmgcbkaaMontFns
import Derived.Test.YtmhieifjmgcbkaaPrime
import Derived.BigQuiet
import Derived.Deep.CutBlock
import Derived.Test.YtmhieifjmgcbkaaPow
import Derived.Test.YtmhieifjmgcbkaaDuo1
import Derived.OpenShut
import Derived.ChangeOld
import Derived.ProofKit
namespace Go.Proofs.Ytmhieifjmgcbkaa
open Go.RowKit Cv

set_option maxRecDepth 20000 in
set_option maxHeartbeats 4000000 in
theorem twoone_v (w : World) :
    Calls Try.prog 51 #[] w (Is (nv 6 [1, 0]) w) := by
  go_enter Try.func51, Try.ntmps51
  refine wp_seq (region_m (F := fun γ => ⟨#[.pointer (some ⟨γ 0, 0, none⟩), undef, undef], []⟩) 1 (fun _ => 26) (fun _ => 0) (fun _ => 0) (fun _ => segs [.n 6 0, .n 6 0]) (fun _ => segs [.n 6 0, .n 6 0]) [0] (.inr ⟨rfl, by kernel_rfl⟩) (by kernel_rfl) rfl rfl rfl ?_ ?_)
  · refine GSteps.cons (gm_box 0 rfl (fun _ => rfl) (fun _ _ => rfl) (fun γ w h => ex_allocsn (K := 6) (l := [0, 0]) zFp2) rfl rfl rfl) ?_
    exact GSteps.nil
  intro γ1 w1 hb1 hB1 _
  refine th_r ?_
  have A2 : SB 26 w1 (γ1 0) [.n 6 0, .n 6 0] := (hB1 0 (by decide)).2
  have le2 := (hB1 0 (by decide)).1
  have HB3 := below_then (Below.refl w.heap.size w) hb1.out
  refine wp_seq (region_ms (F := fun _ => ⟨#[.pointer (some ⟨(γ1 0), 0, none⟩), nv 6 [1], nv 6 [1, 0]], []⟩) 2 ((γ1 0)) 0 (segs [.n 6 1, .n 6 0]) 0 (fun _ => 0) (fun _ => 0) (fun _ => 0) (fun _ => []) (fun _ => []) [1, 2] (.inr ⟨rfl, by kernel_rfl⟩) (by kernel_rfl) rfl rfl rfl ?_ ?_)
  · refine GSteps.cons (late_step (gm_val (v := nv 6 [1]) rfl (fun _ => rfl) (fun _ => rfl) (fun γ w h => ex_one rfl) rfl) (by kernel_rfl) rfl) ?_
    refine GSteps.cons (late_step (gm_val (v := nv 6 [1, 0]) rfl (fun _ => rfl) (fun _ => rfl) (fun γ w h => ex_build stFp2 (vs := [(0, nv 6 [1])]) rfl (bdA 1)) rfl) (by kernel_rfl) rfl) ?_
    refine GSteps.cons (late_store rfl (fun _ => rfl) (fun γ w h => ex_stores 0 2 (l := [.n 6 0, .n 6 0]) (m := [.n 6 1, .n 6 0]) flFp2.2 rfl rfl rfl (nv_cells 6 [1, 0]) (A2.keep h.out) rfl rfl) rfl) ?_
    exact GSteps.nil
  intro _ w4 w4_ hb4 _ _ hs4
  refine th_r ?_
  have A5 := A2.keep hb4.out
  have HB6 := below_then HB3 hb4.out
  have A7 := hs4.here 0 2 (l' := [.n 6 1, .n 6 0]) A5 rfl rfl rfl
  have HB8 := hs4.below HB6 (Nat.le_trans (Nat.le_refl _) le2)
  exact wp_ret (bodyPost_ret (ret1 Try.results51 (res_nv (K := 6) (l := [1, 0]) rfl A7 flFp2 rfl)) rfl ⟨rfl, HB8⟩)

set_option maxRecDepth 20000 in
set_option maxHeartbeats 4000000 in
theorem twoalike_4 (w : World) :
    Calls Try.prog 30 #[.int .u64 4] w (Is (nv 6 [4, 4]) w) := by
  go_enter Try.func30, Try.ntmps30
  refine wp_seq (region_m (F := fun γ => ⟨#[.int .u64 4, undef, .pointer (some ⟨γ 0, 0, none⟩), undef, undef, undef, undef, undef], []⟩) 1 (fun _ => 26) (fun _ => 0) (fun _ => 0) (fun _ => segs [.n 6 0, .n 6 0]) (fun _ => segs [.n 6 0, .n 6 0]) [2] (.inr ⟨rfl, by kernel_rfl⟩) (by kernel_rfl) rfl rfl rfl ?_ ?_)
  · refine GSteps.cons (gm_box 0 rfl (fun _ => rfl) (fun _ _ => rfl) (fun γ w h => ex_allocsn (K := 6) (l := [0, 0]) zFp2) rfl rfl rfl) ?_
    exact GSteps.nil
  intro γ1 w1 hb1 hB1 _
  refine th_r ?_
  have A2 : SB 26 w1 (γ1 0) [.n 6 0, .n 6 0] := (hB1 0 (by decide)).2
  have le2 := (hB1 0 (by decide)).1
  have HB3 := below_then (Below.refl w.heap.size w) hb1.out
  refine wp_seq (region_ms (F := fun _ => ⟨#[.int .u64 4, undef, .pointer (some ⟨(γ1 0), 0, none⟩), .int .u64 4, nv 6 [4], .int .u64 4, nv 6 [4], nv 6 [4, 4]], []⟩) 5 ((γ1 0)) 0 (segs [.n 6 4, .n 6 4]) 0 (fun _ => 0) (fun _ => 0) (fun _ => 0) (fun _ => []) (fun _ => []) [3, 4, 5, 6, 7] (.inr ⟨rfl, by kernel_rfl⟩) (by kernel_rfl) rfl rfl rfl ?_ ?_)
  · refine GSteps.cons (late_step (gm_val (v := .int .u64 4) rfl (fun _ => rfl) (fun _ => rfl) (fun γ w h => ex_move _) rfl) (by kernel_rfl) rfl) ?_
    refine GSteps.cons (late_step (gm_val (v := nv 6 [4]) rfl (fun _ => rfl) (fun _ => rfl) (fun γ w h => ex_limb6 (e := 4) (by decide) rfl) rfl) (by kernel_rfl) rfl) ?_
    refine GSteps.cons (late_step (gm_val (v := .int .u64 4) rfl (fun _ => rfl) (fun _ => rfl) (fun γ w h => ex_move _) rfl) (by kernel_rfl) rfl) ?_
    refine GSteps.cons (late_step (gm_val (v := nv 6 [4]) rfl (fun _ => rfl) (fun _ => rfl) (fun γ w h => ex_limb6 (e := 4) (by decide) rfl) rfl) (by kernel_rfl) rfl) ?_
    refine GSteps.cons (late_step (gm_val (v := nv 6 [4, 4]) rfl (fun _ => rfl) (fun _ => rfl) (fun γ w h => ex_build stFp2 (vs := [(0, nv 6 [4]), (1, nv 6 [4])]) rfl (bdAB 4 4)) rfl) (by kernel_rfl) rfl) ?_
    refine GSteps.cons (late_store rfl (fun _ => rfl) (fun γ w h => ex_stores 0 2 (l := [.n 6 0, .n 6 0]) (m := [.n 6 4, .n 6 4]) flFp2.2 rfl rfl rfl (nv_cells 6 [4, 4]) (A2.keep h.out) rfl rfl) rfl) ?_
    exact GSteps.nil
  intro _ w4 w4_ hb4 _ _ hs4
  refine th_r ?_
  have A5 := A2.keep hb4.out
  have HB6 := below_then HB3 hb4.out
  have A7 := hs4.here 0 2 (l' := [.n 6 4, .n 6 4]) A5 rfl rfl rfl
  have HB8 := hs4.below HB6 (Nat.le_trans (Nat.le_refl _) le2)
  exact wp_ret (bodyPost_ret (ret1 Try.results30 (res_nv (K := 6) (l := [4, 4]) rfl A7 flFp2 rfl)) rfl ⟨rfl, HB8⟩)

set_option maxRecDepth 20000 in
set_option maxHeartbeats 4000000 in
theorem twoalike_12 (w : World) :
    Calls Try.prog 30 #[.int .u64 12] w (Is (nv 6 [12, 12]) w) := by
  go_enter Try.func30, Try.ntmps30
  refine wp_seq (region_m (F := fun γ => ⟨#[.int .u64 12, undef, .pointer (some ⟨γ 0, 0, none⟩), undef, undef, undef, undef, undef], []⟩) 1 (fun _ => 26) (fun _ => 0) (fun _ => 0) (fun _ => segs [.n 6 0, .n 6 0]) (fun _ => segs [.n 6 0, .n 6 0]) [2] (.inr ⟨rfl, by kernel_rfl⟩) (by kernel_rfl) rfl rfl rfl ?_ ?_)
  · refine GSteps.cons (gm_box 0 rfl (fun _ => rfl) (fun _ _ => rfl) (fun γ w h => ex_allocsn (K := 6) (l := [0, 0]) zFp2) rfl rfl rfl) ?_
    exact GSteps.nil
  intro γ1 w1 hb1 hB1 _
  refine th_r ?_
  have A2 : SB 26 w1 (γ1 0) [.n 6 0, .n 6 0] := (hB1 0 (by decide)).2
  have le2 := (hB1 0 (by decide)).1
  have HB3 := below_then (Below.refl w.heap.size w) hb1.out
  refine wp_seq (region_ms (F := fun _ => ⟨#[.int .u64 12, undef, .pointer (some ⟨(γ1 0), 0, none⟩), .int .u64 12, nv 6 [12], .int .u64 12, nv 6 [12], nv 6 [12, 12]], []⟩) 5 ((γ1 0)) 0 (segs [.n 6 12, .n 6 12]) 0 (fun _ => 0) (fun _ => 0) (fun _ => 0) (fun _ => []) (fun _ => []) [3, 4, 5, 6, 7] (.inr ⟨rfl, by kernel_rfl⟩) (by kernel_rfl) rfl rfl rfl ?_ ?_)
  · refine GSteps.cons (late_step (gm_val (v := .int .u64 12) rfl (fun _ => rfl) (fun _ => rfl) (fun γ w h => ex_move _) rfl) (by kernel_rfl) rfl) ?_
    refine GSteps.cons (late_step (gm_val (v := nv 6 [12]) rfl (fun _ => rfl) (fun _ => rfl) (fun γ w h => ex_limb6 (e := 12) (by decide) rfl) rfl) (by kernel_rfl) rfl) ?_
    refine GSteps.cons (late_step (gm_val (v := .int .u64 12) rfl (fun _ => rfl) (fun _ => rfl) (fun γ w h => ex_move _) rfl) (by kernel_rfl) rfl) ?_
    refine GSteps.cons (late_step (gm_val (v := nv 6 [12]) rfl (fun _ => rfl) (fun _ => rfl) (fun γ w h => ex_limb6 (e := 12) (by decide) rfl) rfl) (by kernel_rfl) rfl) ?_
    refine GSteps.cons (late_step (gm_val (v := nv 6 [12, 12]) rfl (fun _ => rfl) (fun _ => rfl) (fun γ w h => ex_build stFp2 (vs := [(0, nv 6 [12]), (1, nv 6 [12])]) rfl (bdAB 12 12)) rfl) (by kernel_rfl) rfl) ?_
    refine GSteps.cons (late_store rfl (fun _ => rfl) (fun γ w h => ex_stores 0 2 (l := [.n 6 0, .n 6 0]) (m := [.n 6 12, .n 6 12]) flFp2.2 rfl rfl rfl (nv_cells 6 [12, 12]) (A2.keep h.out) rfl rfl) rfl) ?_
    exact GSteps.nil
  intro _ w4 w4_ hb4 _ _ hs4
  refine th_r ?_
  have A5 := A2.keep hb4.out
  have HB6 := below_then HB3 hb4.out
  have A7 := hs4.here 0 2 (l' := [.n 6 12, .n 6 12]) A5 rfl rfl rfl
  have HB8 := hs4.below HB6 (Nat.le_trans (Nat.le_refl _) le2)
  exact wp_ret (bodyPost_ret (ret1 Try.results30 (res_nv (K := 6) (l := [12, 12]) rfl A7 flFp2 rfl)) rfl ⟨rfl, HB8⟩)

set_option maxRecDepth 20000 in
set_option maxHeartbeats 4000000 in
theorem twotwofold_e' (x v : Zq) (hv : v = 2 * x) (w : World) :
    Calls Try.prog 67 #[nv 6 [x.re.val, x.im.val]] w (Is (nv 6 [v.re.val, v.im.val]) w) := by
  obtain ⟨z1, ez1⟩ : ∃ q_ : Zq, q_ = x + x := ⟨_, rfl⟩
  obtain rfl : z1 = v := by subst ez1; rw [hv]; first | done | (clear hv; grind)
  go_enter Try.func67, Try.ntmps67
  refine wp_seq (region_m (F := fun γ => ⟨#[nv 6 [x.re.val, x.im.val], .pointer (some ⟨γ 0, 0, none⟩), .pointer (some ⟨γ 1, 0, none⟩), undef, undef, undef], []⟩) 2 (fun j_ => match j_ with | 0 => 26 | _ => 26) (fun j_ => match j_ with | 0 => 0 | _ => 1) (fun j_ => match j_ with | 0 => 0 | _ => 1) (fun j_ => match j_ with | 0 => segs [.n 6 x.re.val, .n 6 x.im.val] | _ => segs [.n 6 0, .n 6 0]) (fun j_ => match j_ with | 0 => segs [.n 6 x.re.val, .n 6 x.im.val] | _ => segs [.n 6 0, .n 6 0]) [1, 2] (.inr ⟨rfl, by kernel_rfl⟩) (by kernel_rfl) rfl rfl rfl ?_ ?_)
  · refine GSteps.cons (gm_box 0 rfl (fun _ => rfl) (fun _ _ => rfl) (fun γ w h => ex_boxsn (K := 6) (l := [x.re.val, x.im.val]) rfl) rfl rfl rfl) ?_
    refine GSteps.cons (gm_box 1 rfl (fun _ => rfl) (fun _ _ => rfl) (fun γ w h => ex_allocsn (K := 6) (l := [0, 0]) zFp2) rfl rfl rfl) ?_
    exact GSteps.nil
  intro γ1 w1 hb1 hB1 hn1
  refine th_r ?_
  have A2 : SB 26 w1 (γ1 0) [.n 6 x.re.val, .n 6 x.im.val] := (hB1 0 (by decide)).2
  have le2 := (hB1 0 (by decide)).1
  have A3 : SB 26 w1 (γ1 1) [.n 6 0, .n 6 0] := (hB1 1 (by decide)).2
  have le3 := (hB1 1 (by decide)).1
  have HB4 := below_then (Below.refl w.heap.size w) hb1.out
  refine wp_seq (region_ms (F := fun _ => ⟨#[nv 6 [x.re.val, x.im.val], .pointer (some ⟨(γ1 0), 0, none⟩), .pointer (some ⟨(γ1 1), 0, none⟩), nv 6 [x.re.val, x.im.val], nv 6 [x.re.val, x.im.val], nv 6 [z1.re.val, z1.im.val]], []⟩) 3 ((γ1 1)) 0 (segs [.n 6 z1.re.val, .n 6 z1.im.val]) 0 (fun _ => 0) (fun _ => 0) (fun _ => 0) (fun _ => []) (fun _ => []) [3, 4, 5] (.inr ⟨rfl, by kernel_rfl⟩) (by kernel_rfl) rfl rfl rfl ?_ ?_)
  · refine GSteps.cons (late_step (gm_val (v := nv 6 [x.re.val, x.im.val]) rfl (fun _ => rfl) (fun _ => rfl) (fun γ w h => ex_loadsn (K := 6) 0 2 (m := [x.re.val, x.im.val]) flFp2 rfl rfl (A2.keep h.out) rfl rfl) rfl) (by kernel_rfl) rfl) ?_
    refine GSteps.cons (late_step (gm_val (v := nv 6 [x.re.val, x.im.val]) rfl (fun _ => rfl) (fun _ => rfl) (fun γ w h => ex_loadsn (K := 6) 0 2 (m := [x.re.val, x.im.val]) flFp2 rfl rfl (A2.keep h.out) rfl rfl) rfl) (by kernel_rfl) rfl) ?_
    refine GSteps.cons (late_step (gm_call (v := nv 6 [z1.re.val, z1.im.val]) rfl (fun _ => rfl) (fun _ => rfl) (fun γ w => ex_call (vs := [nv 6 [x.re.val, x.im.val], nv 6 [x.re.val, x.im.val]]) rfl Try.call29 rfl) (fun w h => duoAdd_z x x z1 rfl rfl ez1 _) rfl) (by kernel_rfl) rfl) ?_
    refine GSteps.cons (late_store rfl (fun _ => rfl) (fun γ w h => ex_stores 0 2 (l := [.n 6 0, .n 6 0]) (m := [.n 6 z1.re.val, .n 6 z1.im.val]) flFp2.2 rfl rfl rfl (nv_cells 6 [z1.re.val, z1.im.val]) (A3.keep h.out) rfl rfl) rfl) ?_
    exact GSteps.nil
  intro _ w5 w5_ hb5 _ _ hs5
  refine th_r ?_
  have A6 := A2.keep hb5.out
  have A7 := A3.keep hb5.out
  have HB8 := below_then HB4 hb5.out
  have A9 := hs5.other (hn1 0 1 (by decide) (by decide) (by decide)) A6
  have A10 := hs5.here 0 2 (l' := [.n 6 z1.re.val, .n 6 z1.im.val]) A7 rfl rfl rfl
  have HB11 := hs5.below HB8 (Nat.le_trans (Nat.le_refl _) le3)
  exact wp_ret (bodyPost_ret (ret1 Try.results67 (res_nv (K := 6) (l := [z1.re.val, z1.im.val]) rfl A10 flFp2 rfl)) rfl ⟨rfl, HB11⟩)

theorem twotwofold_e {l0 : List Nat} (x v : Zq) (hl0 : l0 = [x.re.val, x.im.val]) (hv : v = 2 * x) (w : World) :
    Calls Try.prog 67 #[nv 6 l0] w (Is (nv 6 [v.re.val, v.im.val]) w) := by
  subst hl0
  exact twotwofold_e' x v hv w

set_option maxRecDepth 20000 in
set_option maxHeartbeats 4000000 in
theorem twothreefold_e' (x v : Zq) (hv : v = 3 * x) (w : World) :
    Calls Try.prog 56 #[nv 6 [x.re.val, x.im.val]] w (Is (nv 6 [v.re.val, v.im.val]) w) := by
  obtain ⟨z1, ez1⟩ : ∃ q_ : Zq, q_ = 2 * x := ⟨_, rfl⟩
  obtain ⟨z2, ez2⟩ : ∃ q_ : Zq, q_ = z1 + x := ⟨_, rfl⟩
  obtain rfl : z2 = v := by subst ez2 ez1; rw [hv]; first | done | (clear hv; grind)
  go_enter Try.func56, Try.ntmps56
  refine wp_seq (region_m (F := fun γ => ⟨#[nv 6 [x.re.val, x.im.val], .pointer (some ⟨γ 0, 0, none⟩), .pointer (some ⟨γ 1, 0, none⟩), undef, undef, undef, undef], []⟩) 2 (fun j_ => match j_ with | 0 => 26 | _ => 26) (fun j_ => match j_ with | 0 => 0 | _ => 1) (fun j_ => match j_ with | 0 => 0 | _ => 1) (fun j_ => match j_ with | 0 => segs [.n 6 x.re.val, .n 6 x.im.val] | _ => segs [.n 6 0, .n 6 0]) (fun j_ => match j_ with | 0 => segs [.n 6 x.re.val, .n 6 x.im.val] | _ => segs [.n 6 0, .n 6 0]) [1, 2] (.inr ⟨rfl, by kernel_rfl⟩) (by kernel_rfl) rfl rfl rfl ?_ ?_)
  · refine GSteps.cons (gm_box 0 rfl (fun _ => rfl) (fun _ _ => rfl) (fun γ w h => ex_boxsn (K := 6) (l := [x.re.val, x.im.val]) rfl) rfl rfl rfl) ?_
    refine GSteps.cons (gm_box 1 rfl (fun _ => rfl) (fun _ _ => rfl) (fun γ w h => ex_allocsn (K := 6) (l := [0, 0]) zFp2) rfl rfl rfl) ?_
    exact GSteps.nil
  intro γ1 w1 hb1 hB1 hn1
  refine th_r ?_
  have A2 : SB 26 w1 (γ1 0) [.n 6 x.re.val, .n 6 x.im.val] := (hB1 0 (by decide)).2
  have le2 := (hB1 0 (by decide)).1
  have A3 : SB 26 w1 (γ1 1) [.n 6 0, .n 6 0] := (hB1 1 (by decide)).2
  have le3 := (hB1 1 (by decide)).1
  have HB4 := below_then (Below.refl w.heap.size w) hb1.out
  refine wp_seq (region_ms (F := fun _ => ⟨#[nv 6 [x.re.val, x.im.val], .pointer (some ⟨(γ1 0), 0, none⟩), .pointer (some ⟨(γ1 1), 0, none⟩), nv 6 [x.re.val, x.im.val], nv 6 [z1.re.val, z1.im.val], nv 6 [x.re.val, x.im.val], nv 6 [z2.re.val, z2.im.val]], []⟩) 4 ((γ1 1)) 0 (segs [.n 6 z2.re.val, .n 6 z2.im.val]) 0 (fun _ => 0) (fun _ => 0) (fun _ => 0) (fun _ => []) (fun _ => []) [3, 4, 5, 6] (.inl ⟨rfl, by kernel_rfl⟩) (by kernel_rfl) rfl rfl rfl ?_ ?_)
  · refine GSteps.cons (late_step (gm_val (v := nv 6 [x.re.val, x.im.val]) rfl (fun _ => rfl) (fun _ => rfl) (fun γ w h => ex_loadsn (K := 6) 0 2 (m := [x.re.val, x.im.val]) flFp2 rfl rfl (A2.keep h.out) rfl rfl) rfl) (by kernel_rfl) rfl) ?_
    refine GSteps.cons (late_step (gm_call (v := nv 6 [z1.re.val, z1.im.val]) rfl (fun _ => rfl) (fun _ => rfl) (fun γ w => ex_call (vs := [nv 6 [x.re.val, x.im.val]]) rfl Try.call67 rfl) (fun w h => twotwofold_e x z1 rfl ez1 _) rfl) (by kernel_rfl) rfl) ?_
    refine GSteps.cons (late_step (gm_val (v := nv 6 [x.re.val, x.im.val]) rfl (fun _ => rfl) (fun _ => rfl) (fun γ w h => ex_loadsn (K := 6) 0 2 (m := [x.re.val, x.im.val]) flFp2 rfl rfl (A2.keep h.out) rfl rfl) rfl) (by kernel_rfl) rfl) ?_
    refine GSteps.cons (late_step (gm_call (v := nv 6 [z2.re.val, z2.im.val]) rfl (fun _ => rfl) (fun _ => rfl) (fun γ w => ex_call (vs := [nv 6 [z1.re.val, z1.im.val], nv 6 [x.re.val, x.im.val]]) rfl Try.call29 rfl) (fun w h => duoAdd_z z1 x z2 rfl rfl ez2 _) rfl) (by kernel_rfl) rfl) ?_
    refine GSteps.cons (late_store rfl (fun _ => rfl) (fun γ w h => ex_stores 0 2 (l := [.n 6 0, .n 6 0]) (m := [.n 6 z2.re.val, .n 6 z2.im.val]) flFp2.2 rfl rfl rfl (nv_cells 6 [z2.re.val, z2.im.val]) (A3.keep h.out) rfl rfl) rfl) ?_
    exact GSteps.nil
  intro _ w5 w5_ hb5 _ _ hs5
  refine th_r ?_
  have A6 := A2.keep hb5.out
  have A7 := A3.keep hb5.out
  have HB8 := below_then HB4 hb5.out
  have A9 := hs5.other (hn1 0 1 (by decide) (by decide) (by decide)) A6
  have A10 := hs5.here 0 2 (l' := [.n 6 z2.re.val, .n 6 z2.im.val]) A7 rfl rfl rfl
  have HB11 := hs5.below HB8 (Nat.le_trans (Nat.le_refl _) le3)
  exact wp_ret (bodyPost_ret (ret1 Try.results56 (res_nv (K := 6) (l := [z2.re.val, z2.im.val]) rfl A10 flFp2 rfl)) rfl ⟨rfl, HB11⟩)

theorem twothreefold_e {l0 : List Nat} (x v : Zq) (hl0 : l0 = [x.re.val, x.im.val]) (hv : v = 3 * x) (w : World) :
    Calls Try.prog 56 #[nv 6 l0] w (Is (nv 6 [v.re.val, v.im.val]) w) := by
  subst hl0
  exact twothreefold_e' x v hv w

set_option maxRecDepth 20000 in
set_option maxHeartbeats 4000000 in
theorem twocrossed_e' (x1 y1 x2 y2 v : Zq) (hv : v = x1 * y2 + y1 * x2) (w : World) :
    Calls Try.prog 57 #[nv 6 [x1.re.val, x1.im.val], nv 6 [y1.re.val, y1.im.val], nv 6 [x2.re.val, x2.im.val], nv 6 [y2.re.val, y2.im.val]] w (Is (nv 6 [v.re.val, v.im.val]) w) := by
  obtain ⟨z1, ez1⟩ : ∃ q_ : Zq, q_ = x1 * y2 := ⟨_, rfl⟩
  obtain ⟨z2, ez2⟩ : ∃ q_ : Zq, q_ = y1 * x2 := ⟨_, rfl⟩
  obtain ⟨z3, ez3⟩ : ∃ q_ : Zq, q_ = z1 + z2 := ⟨_, rfl⟩
  obtain rfl : z3 = v := by subst ez3 ez2 ez1; rw [hv]; first | done | (clear hv; grind)
  go_enter Try.func57, Try.ntmps57
  refine wp_seq (region_m (F := fun γ => ⟨#[nv 6 [x1.re.val, x1.im.val], nv 6 [y1.re.val, y1.im.val], nv 6 [x2.re.val, x2.im.val], nv 6 [y2.re.val, y2.im.val], .pointer (some ⟨γ 0, 0, none⟩), .pointer (some ⟨γ 1, 0, none⟩), .pointer (some ⟨γ 2, 0, none⟩), .pointer (some ⟨γ 3, 0, none⟩), .pointer (some ⟨γ 4, 0, none⟩), undef, undef, undef, undef, undef, undef, undef], []⟩) 5 (fun j_ => match j_ with | 0 => 26 | 1 => 26 | 2 => 26 | 3 => 26 | _ => 26) (fun j_ => match j_ with | 0 => 0 | 1 => 1 | 2 => 2 | 3 => 3 | _ => 4) (fun j_ => match j_ with | 0 => 0 | 1 => 1 | 2 => 2 | 3 => 3 | _ => 4) (fun j_ => match j_ with | 0 => segs [.n 6 x1.re.val, .n 6 x1.im.val] | 1 => segs [.n 6 y1.re.val, .n 6 y1.im.val] | 2 => segs [.n 6 x2.re.val, .n 6 x2.im.val] | 3 => segs [.n 6 y2.re.val, .n 6 y2.im.val] | _ => segs [.n 6 0, .n 6 0]) (fun j_ => match j_ with | 0 => segs [.n 6 x1.re.val, .n 6 x1.im.val] | 1 => segs [.n 6 y1.re.val, .n 6 y1.im.val] | 2 => segs [.n 6 x2.re.val, .n 6 x2.im.val] | 3 => segs [.n 6 y2.re.val, .n 6 y2.im.val] | _ => segs [.n 6 0, .n 6 0]) [4, 5, 6, 7, 8] (.inr ⟨rfl, by kernel_rfl⟩) (by kernel_rfl) rfl rfl rfl ?_ ?_)
  · refine GSteps.cons (gm_box 0 rfl (fun _ => rfl) (fun _ _ => rfl) (fun γ w h => ex_boxsn (K := 6) (l := [x1.re.val, x1.im.val]) rfl) rfl rfl rfl) ?_
    refine GSteps.cons (gm_box 1 rfl (fun _ => rfl) (fun _ _ => rfl) (fun γ w h => ex_boxsn (K := 6) (l := [y1.re.val, y1.im.val]) rfl) rfl rfl rfl) ?_
    refine GSteps.cons (gm_box 2 rfl (fun _ => rfl) (fun _ _ => rfl) (fun γ w h => ex_boxsn (K := 6) (l := [x2.re.val, x2.im.val]) rfl) rfl rfl rfl) ?_
    refine GSteps.cons (gm_box 3 rfl (fun _ => rfl) (fun _ _ => rfl) (fun γ w h => ex_boxsn (K := 6) (l := [y2.re.val, y2.im.val]) rfl) rfl rfl rfl) ?_
    refine GSteps.cons (gm_box 4 rfl (fun _ => rfl) (fun _ _ => rfl) (fun γ w h => ex_allocsn (K := 6) (l := [0, 0]) zFp2) rfl rfl rfl) ?_
    exact GSteps.nil
  intro γ1 w1 hb1 hB1 hn1
  refine th_r ?_
  have A2 : SB 26 w1 (γ1 0) [.n 6 x1.re.val, .n 6 x1.im.val] := (hB1 0 (by decide)).2
  have le2 := (hB1 0 (by decide)).1
  have A3 : SB 26 w1 (γ1 1) [.n 6 y1.re.val, .n 6 y1.im.val] := (hB1 1 (by decide)).2
  have le3 := (hB1 1 (by decide)).1
  have A4 : SB 26 w1 (γ1 2) [.n 6 x2.re.val, .n 6 x2.im.val] := (hB1 2 (by decide)).2
  have le4 := (hB1 2 (by decide)).1
  have A5 : SB 26 w1 (γ1 3) [.n 6 y2.re.val, .n 6 y2.im.val] := (hB1 3 (by decide)).2
  have le5 := (hB1 3 (by decide)).1
  have A6 : SB 26 w1 (γ1 4) [.n 6 0, .n 6 0] := (hB1 4 (by decide)).2
  have le6 := (hB1 4 (by decide)).1
  have HB7 := below_then (Below.refl w.heap.size w) hb1.out
  refine wp_seq (region_ms (F := fun _ => ⟨#[nv 6 [x1.re.val, x1.im.val], nv 6 [y1.re.val, y1.im.val], nv 6 [x2.re.val, x2.im.val], nv 6 [y2.re.val, y2.im.val], .pointer (some ⟨(γ1 0), 0, none⟩), .pointer (some ⟨(γ1 1), 0, none⟩), .pointer (some ⟨(γ1 2), 0, none⟩), .pointer (some ⟨(γ1 3), 0, none⟩), .pointer (some ⟨(γ1 4), 0, none⟩), nv 6 [x1.re.val, x1.im.val], nv 6 [y2.re.val, y2.im.val], nv 6 [z1.re.val, z1.im.val], nv 6 [y1.re.val, y1.im.val], nv 6 [x2.re.val, x2.im.val], nv 6 [z2.re.val, z2.im.val], nv 6 [z3.re.val, z3.im.val]], []⟩) 7 ((γ1 4)) 0 (segs [.n 6 z3.re.val, .n 6 z3.im.val]) 0 (fun _ => 0) (fun _ => 0) (fun _ => 0) (fun _ => []) (fun _ => []) [9, 10, 11, 12, 13, 14, 15] (.inl ⟨rfl, by kernel_rfl⟩) (by kernel_rfl) rfl rfl rfl ?_ ?_)
  · refine GSteps.cons (late_step (gm_val (v := nv 6 [x1.re.val, x1.im.val]) rfl (fun _ => rfl) (fun _ => rfl) (fun γ w h => ex_loadsn (K := 6) 0 2 (m := [x1.re.val, x1.im.val]) flFp2 rfl rfl (A2.keep h.out) rfl rfl) rfl) (by kernel_rfl) rfl) ?_
    refine GSteps.cons (late_step (gm_val (v := nv 6 [y2.re.val, y2.im.val]) rfl (fun _ => rfl) (fun _ => rfl) (fun γ w h => ex_loadsn (K := 6) 0 2 (m := [y2.re.val, y2.im.val]) flFp2 rfl rfl (A5.keep h.out) rfl rfl) rfl) (by kernel_rfl) rfl) ?_
    refine GSteps.cons (late_step (gm_call (v := nv 6 [z1.re.val, z1.im.val]) rfl (fun _ => rfl) (fun _ => rfl) (fun γ w => ex_call (vs := [nv 6 [x1.re.val, x1.im.val], nv 6 [y2.re.val, y2.im.val]]) rfl Try.call28 rfl) (fun w h => duoMul_z x1 y2 z1 rfl rfl ez1 _) rfl) (by kernel_rfl) rfl) ?_
    refine GSteps.cons (late_step (gm_val (v := nv 6 [y1.re.val, y1.im.val]) rfl (fun _ => rfl) (fun _ => rfl) (fun γ w h => ex_loadsn (K := 6) 0 2 (m := [y1.re.val, y1.im.val]) flFp2 rfl rfl (A3.keep h.out) rfl rfl) rfl) (by kernel_rfl) rfl) ?_
    refine GSteps.cons (late_step (gm_val (v := nv 6 [x2.re.val, x2.im.val]) rfl (fun _ => rfl) (fun _ => rfl) (fun γ w h => ex_loadsn (K := 6) 0 2 (m := [x2.re.val, x2.im.val]) flFp2 rfl rfl (A4.keep h.out) rfl rfl) rfl) (by kernel_rfl) rfl) ?_
    refine GSteps.cons (late_step (gm_call (v := nv 6 [z2.re.val, z2.im.val]) rfl (fun _ => rfl) (fun _ => rfl) (fun γ w => ex_call (vs := [nv 6 [y1.re.val, y1.im.val], nv 6 [x2.re.val, x2.im.val]]) rfl Try.call28 rfl) (fun w h => duoMul_z y1 x2 z2 rfl rfl ez2 _) rfl) (by kernel_rfl) rfl) ?_
    refine GSteps.cons (late_step (gm_call (v := nv 6 [z3.re.val, z3.im.val]) rfl (fun _ => rfl) (fun _ => rfl) (fun γ w => ex_call (vs := [nv 6 [z1.re.val, z1.im.val], nv 6 [z2.re.val, z2.im.val]]) rfl Try.call29 rfl) (fun w h => duoAdd_z z1 z2 z3 rfl rfl ez3 _) rfl) (by kernel_rfl) rfl) ?_
    refine GSteps.cons (late_store rfl (fun _ => rfl) (fun γ w h => ex_stores 0 2 (l := [.n 6 0, .n 6 0]) (m := [.n 6 z3.re.val, .n 6 z3.im.val]) flFp2.2 rfl rfl rfl (nv_cells 6 [z3.re.val, z3.im.val]) (A6.keep h.out) rfl rfl) rfl) ?_
    exact GSteps.nil
  intro _ w8 w8_ hb8 _ _ hs8
  refine th_r ?_
  have A9 := A2.keep hb8.out
  have A10 := A3.keep hb8.out
  have A11 := A4.keep hb8.out
  have A12 := A5.keep hb8.out
  have A13 := A6.keep hb8.out
  have HB14 := below_then HB7 hb8.out
  have A15 := hs8.other (hn1 0 4 (by decide) (by decide) (by decide)) A9
  have A16 := hs8.other (hn1 1 4 (by decide) (by decide) (by decide)) A10
  have A17 := hs8.other (hn1 2 4 (by decide) (by decide) (by decide)) A11
  have A18 := hs8.other (hn1 3 4 (by decide) (by decide) (by decide)) A12
  have A19 := hs8.here 0 2 (l' := [.n 6 z3.re.val, .n 6 z3.im.val]) A13 rfl rfl rfl
  have HB20 := hs8.below HB14 (Nat.le_trans (Nat.le_refl _) le6)
  exact wp_ret (bodyPost_ret (ret1 Try.results57 (res_nv (K := 6) (l := [z3.re.val, z3.im.val]) rfl A19 flFp2 rfl)) rfl ⟨rfl, HB20⟩)

theorem twocrossed_e {l0 : List Nat} {l1 : List Nat} {l2 : List Nat} {l3 : List Nat} (x1 y1 x2 y2 v : Zq) (hl0 : l0 = [x1.re.val, x1.im.val]) (hl1 : l1 = [y1.re.val, y1.im.val]) (hl2 : l2 = [x2.re.val, x2.im.val]) (hl3 : l3 = [y2.re.val, y2.im.val]) (hv : v = x1 * y2 + y1 * x2) (w : World) :
    Calls Try.prog 57 #[nv 6 l0, nv 6 l1, nv 6 l2, nv 6 l3] w (Is (nv 6 [v.re.val, v.im.val]) w) := by
  subst hl0 hl1 hl2 hl3
  exact twocrossed_e' x1 y1 x2 y2 v hv w

set_option maxRecDepth 20000 in
set_option maxHeartbeats 4000000 in
theorem twoplus_q {s t u : Tri Zq} (hu : u = plusT b6 s t) (w : World) :
    Calls Try.prog 37 #[sv [.n 6 s.x.re.val, .n 6 s.x.im.val, .n 6 s.y.re.val, .n 6 s.y.im.val, .n 6 s.z.re.val, .n 6 s.z.im.val], sv [.n 6 t.x.re.val, .n 6 t.x.im.val, .n 6 t.y.re.val, .n 6 t.y.im.val, .n 6 t.z.re.val, .n 6 t.z.im.val]] w (Is (sv [.n 6 u.x.re.val, .n 6 u.x.im.val, .n 6 u.y.re.val, .n 6 u.y.im.val, .n 6 u.z.re.val, .n 6 u.z.im.val]) w) := by
  obtain ⟨z1, ez1⟩ : ∃ q_ : Zq, q_ = s.x * t.x := ⟨_, rfl⟩
  obtain ⟨z2, ez2⟩ : ∃ q_ : Zq, q_ = 3 * z1 := ⟨_, rfl⟩
  obtain ⟨z3, ez3⟩ : ∃ q_ : Zq, q_ = s.y * t.y := ⟨_, rfl⟩
  obtain ⟨z4, ez4⟩ : ∃ q_ : Zq, q_ = s.z * t.z := ⟨_, rfl⟩
  obtain ⟨z5, ez5⟩ : ∃ q_ : Zq, q_ = b6 * z4 := ⟨_, rfl⟩
  obtain ⟨z6, ez6⟩ : ∃ q_ : Zq, q_ = s.x * t.z + s.z * t.x := ⟨_, rfl⟩
  obtain ⟨z7, ez7⟩ : ∃ q_ : Zq, q_ = b6 * z6 := ⟨_, rfl⟩
  obtain ⟨z8, ez8⟩ : ∃ q_ : Zq, q_ = s.x * t.y + s.y * t.x := ⟨_, rfl⟩
  obtain ⟨z9, ez9⟩ : ∃ q_ : Zq, q_ = s.y * t.z + s.z * t.y := ⟨_, rfl⟩
  obtain ⟨z10, ez10⟩ : ∃ q_ : Zq, q_ = z3 - z5 := ⟨_, rfl⟩
  obtain ⟨z11, ez11⟩ : ∃ q_ : Zq, q_ = z3 + z5 := ⟨_, rfl⟩
  obtain ⟨z12, ez12⟩ : ∃ q_ : Zq, q_ = z8 * z10 := ⟨_, rfl⟩
  obtain ⟨z13, ez13⟩ : ∃ q_ : Zq, q_ = z9 * z7 := ⟨_, rfl⟩
  obtain ⟨z14, ez14⟩ : ∃ q_ : Zq, q_ = z12 - z13 := ⟨_, rfl⟩
  obtain ⟨z15, ez15⟩ : ∃ q_ : Zq, q_ = z11 * z10 := ⟨_, rfl⟩
  obtain ⟨z16, ez16⟩ : ∃ q_ : Zq, q_ = z2 * z7 := ⟨_, rfl⟩
  obtain ⟨z17, ez17⟩ : ∃ q_ : Zq, q_ = z15 + z16 := ⟨_, rfl⟩
  obtain ⟨z18, ez18⟩ : ∃ q_ : Zq, q_ = z9 * z11 := ⟨_, rfl⟩
  obtain ⟨z19, ez19⟩ : ∃ q_ : Zq, q_ = z2 * z8 := ⟨_, rfl⟩
  obtain ⟨z20, ez20⟩ : ∃ q_ : Zq, q_ = z18 + z19 := ⟨_, rfl⟩
  have E : plusT b6 s t = ⟨z14, z17, z20⟩ := by subst ez20 ez19 ez18 ez17 ez16 ez15 ez14 ez13 ez12 ez11 ez10 ez9 ez8 ez7 ez6 ez5 ez4 ez3 ez2 ez1; rfl
  rw [hu, E]
  go_enter Try.func37, Try.ntmps37
  refine wp_seq (region_m (F := fun γ => ⟨List.toArray ((sv [.n 6 s.x.re.val, .n 6 s.x.im.val, .n 6 s.y.re.val, .n 6 s.y.im.val, .n 6 s.z.re.val, .n 6 s.z.im.val]) :: (sv [.n 6 t.x.re.val, .n 6 t.x.im.val, .n 6 t.y.re.val, .n 6 t.y.im.val, .n 6 t.z.re.val, .n 6 t.z.im.val]) :: (.pointer (some ⟨γ 0, 0, none⟩)) :: (.pointer (some ⟨γ 1, 0, none⟩)) :: (.pointer (some ⟨γ 2, 0, none⟩)) :: undef :: undef :: undef :: undef :: undef :: undef :: undef :: undef :: undef :: undef :: undef :: undef :: undef :: undef :: undef :: undef :: undef :: undef :: undef :: undef :: undef :: undef :: undef :: undef :: undef :: undef :: undef :: undef :: undef :: undef :: undef :: undef :: undef :: undef :: undef :: undef :: undef :: undef :: undef :: undef :: undef :: undef :: undef :: undef :: undef :: undef :: undef :: undef :: undef :: undef :: undef :: undef :: undef :: undef :: undef :: undef :: undef :: undef :: undef :: undef :: undef :: undef :: undef :: undef :: undef :: undef :: undef :: undef :: undef :: undef :: undef :: undef :: undef :: undef :: undef :: undef :: undef :: undef :: undef :: undef :: undef :: undef :: undef :: []), []⟩) 3 (fun j_ => match j_ with | 0 => 51 | 1 => 51 | _ => 51) (fun j_ => match j_ with | 0 => 0 | 1 => 1 | _ => 2) (fun j_ => match j_ with | 0 => 0 | 1 => 1 | _ => 2) (fun j_ => match j_ with | 0 => segs [.n 6 s.x.re.val, .n 6 s.x.im.val, .n 6 s.y.re.val, .n 6 s.y.im.val, .n 6 s.z.re.val, .n 6 s.z.im.val] | 1 => segs [.n 6 t.x.re.val, .n 6 t.x.im.val, .n 6 t.y.re.val, .n 6 t.y.im.val, .n 6 t.z.re.val, .n 6 t.z.im.val] | _ => segs [.n 6 0, .n 6 0, .n 6 0, .n 6 0, .n 6 0, .n 6 0]) (fun j_ => match j_ with | 0 => segs [.n 6 s.x.re.val, .n 6 s.x.im.val, .n 6 s.y.re.val, .n 6 s.y.im.val, .n 6 s.z.re.val, .n 6 s.z.im.val] | 1 => segs [.n 6 t.x.re.val, .n 6 t.x.im.val, .n 6 t.y.re.val, .n 6 t.y.im.val, .n 6 t.z.re.val, .n 6 t.z.im.val] | _ => segs [.n 6 0, .n 6 0, .n 6 0, .n 6 0, .n 6 0, .n 6 0]) [2, 3, 4] (.inr ⟨rfl, by kernel_rfl⟩) (by kernel_rfl) rfl rfl rfl ?_ ?_)
  · refine GSteps.cons (gm_box 0 rfl (fun _ => rfl) (fun _ _ => rfl) (fun γ w h => ex_boxs (l := [.n 6 s.x.re.val, .n 6 s.x.im.val, .n 6 s.y.re.val, .n 6 s.y.im.val, .n 6 s.z.re.val, .n 6 s.z.im.val]) rfl) rfl rfl rfl) ?_
    refine GSteps.cons (gm_box 1 rfl (fun _ => rfl) (fun _ _ => rfl) (fun γ w h => ex_boxs (l := [.n 6 t.x.re.val, .n 6 t.x.im.val, .n 6 t.y.re.val, .n 6 t.y.im.val, .n 6 t.z.re.val, .n 6 t.z.im.val]) rfl) rfl rfl rfl) ?_
    refine GSteps.cons (gm_box 2 rfl (fun _ => rfl) (fun _ _ => rfl) (fun γ w h => ex_allocs (l := [.n 6 0, .n 6 0, .n 6 0, .n 6 0, .n 6 0, .n 6 0]) zPG2) rfl rfl rfl) ?_
    exact GSteps.nil
  intro γ1 w1 hb1 hB1 hn1
  refine th_r ?_
  have A2 : SB 51 w1 (γ1 0) [.n 6 s.x.re.val, .n 6 s.x.im.val, .n 6 s.y.re.val, .n 6 s.y.im.val, .n 6 s.z.re.val, .n 6 s.z.im.val] := (hB1 0 (by decide)).2
  have le2 := (hB1 0 (by decide)).1
  have A3 : SB 51 w1 (γ1 1) [.n 6 t.x.re.val, .n 6 t.x.im.val, .n 6 t.y.re.val, .n 6 t.y.im.val, .n 6 t.z.re.val, .n 6 t.z.im.val] := (hB1 1 (by decide)).2
  have le3 := (hB1 1 (by decide)).1
  have A4 : SB 51 w1 (γ1 2) [.n 6 0, .n 6 0, .n 6 0, .n 6 0, .n 6 0, .n 6 0] := (hB1 2 (by decide)).2
  have le4 := (hB1 2 (by decide)).1
  have HB5 := below_then (Below.refl w.heap.size w) hb1.out
  refine wp_seq (region_m (F := fun γ => ⟨List.toArray ((sv [.n 6 s.x.re.val, .n 6 s.x.im.val, .n 6 s.y.re.val, .n 6 s.y.im.val, .n 6 s.z.re.val, .n 6 s.z.im.val]) :: (sv [.n 6 t.x.re.val, .n 6 t.x.im.val, .n 6 t.y.re.val, .n 6 t.y.im.val, .n 6 t.z.re.val, .n 6 t.z.im.val]) :: (.pointer (some ⟨(γ1 0), 0, none⟩)) :: (.pointer (some ⟨(γ1 1), 0, none⟩)) :: (.pointer (some ⟨(γ1 2), 0, none⟩)) :: (.pointer (some ⟨γ 0, 0, none⟩)) :: (.pointer (some ⟨γ 1, 0, none⟩)) :: undef :: undef :: undef :: undef :: undef :: undef :: (.pointer (some ⟨(γ1 0), 0, none⟩)) :: (nv 6 [s.x.re.val, s.x.im.val]) :: (.pointer (some ⟨(γ1 1), 0, none⟩)) :: (nv 6 [t.x.re.val, t.x.im.val]) :: (nv 6 [z1.re.val, z1.im.val]) :: (nv 6 [z2.re.val, z2.im.val]) :: (.pointer (some ⟨(γ1 0), 12, none⟩)) :: (nv 6 [s.y.re.val, s.y.im.val]) :: (.pointer (some ⟨(γ1 1), 12, none⟩)) :: (nv 6 [t.y.re.val, t.y.im.val]) :: (nv 6 [z3.re.val, z3.im.val]) :: undef :: undef :: undef :: undef :: undef :: undef :: undef :: undef :: undef :: undef :: undef :: undef :: undef :: undef :: undef :: undef :: undef :: undef :: undef :: undef :: undef :: undef :: undef :: undef :: undef :: undef :: undef :: undef :: undef :: undef :: undef :: undef :: undef :: undef :: undef :: undef :: undef :: undef :: undef :: undef :: undef :: undef :: undef :: undef :: undef :: undef :: undef :: undef :: undef :: undef :: undef :: undef :: undef :: undef :: undef :: undef :: undef :: undef :: undef :: undef :: undef :: undef :: undef :: undef :: []), []⟩) 2 (fun j_ => match j_ with | 0 => 26 | _ => 26) (fun j_ => match j_ with | 0 => 11 | _ => 12) (fun j_ => match j_ with | 0 => 13 | _ => 14) (fun j_ => match j_ with | 0 => segs [.n 6 0, .n 6 0] | _ => segs [.n 6 0, .n 6 0]) (fun j_ => match j_ with | 0 => segs [.n 6 z2.re.val, .n 6 z2.im.val] | _ => segs [.n 6 z3.re.val, .n 6 z3.im.val]) [13, 14, 15, 16, 17, 18, 19, 20, 21, 22, 23, 5, 6] (.inl ⟨rfl, by kernel_rfl⟩) (by kernel_rfl) rfl rfl rfl ?_ ?_)
  · refine GSteps.cons (gm_valg (fun γ => .pointer (some ⟨(γ1 0), 0, none⟩)) rfl (fun _ => rfl) (fun _ => rfl) (fun γ w h => ex_field faPG2_0 rfl) rfl) ?_
    refine GSteps.cons (gm_val (v := nv 6 [s.x.re.val, s.x.im.val]) rfl (fun _ => rfl) (fun _ => rfl) (fun γ w h => ex_loadsn (K := 6) 0 2 (m := [s.x.re.val, s.x.im.val]) flFp2 rfl rfl (A2.keep h.out) rfl rfl) rfl) ?_
    refine GSteps.cons (gm_valg (fun γ => .pointer (some ⟨(γ1 1), 0, none⟩)) rfl (fun _ => rfl) (fun _ => rfl) (fun γ w h => ex_field faPG2_0 rfl) rfl) ?_
    refine GSteps.cons (gm_val (v := nv 6 [t.x.re.val, t.x.im.val]) rfl (fun _ => rfl) (fun _ => rfl) (fun γ w h => ex_loadsn (K := 6) 0 2 (m := [t.x.re.val, t.x.im.val]) flFp2 rfl rfl (A3.keep h.out) rfl rfl) rfl) ?_
    refine GSteps.cons (gm_call (v := nv 6 [z1.re.val, z1.im.val]) rfl (fun _ => rfl) (fun _ => rfl) (fun γ w => ex_call (vs := [nv 6 [s.x.re.val, s.x.im.val], nv 6 [t.x.re.val, t.x.im.val]]) rfl Try.call28 rfl) (fun w h => duoMul_z s.x t.x z1 rfl rfl ez1 _) rfl) ?_
    refine GSteps.cons (gm_call (v := nv 6 [z2.re.val, z2.im.val]) rfl (fun _ => rfl) (fun _ => rfl) (fun γ w => ex_call (vs := [nv 6 [z1.re.val, z1.im.val]]) rfl Try.call56 rfl) (fun w h => twothreefold_e z1 z2 rfl ez2 _) rfl) ?_
    refine GSteps.cons (gm_valg (fun γ => .pointer (some ⟨(γ1 0), 12, none⟩)) rfl (fun _ => rfl) (fun _ => rfl) (fun γ w h => ex_field faPG2_1 rfl) rfl) ?_
    refine GSteps.cons (gm_val (v := nv 6 [s.y.re.val, s.y.im.val]) rfl (fun _ => rfl) (fun _ => rfl) (fun γ w h => ex_loadsn (K := 6) 2 2 (m := [s.y.re.val, s.y.im.val]) flFp2 rfl rfl (A2.keep h.out) rfl rfl) rfl) ?_
    refine GSteps.cons (gm_valg (fun γ => .pointer (some ⟨(γ1 1), 12, none⟩)) rfl (fun _ => rfl) (fun _ => rfl) (fun γ w h => ex_field faPG2_1 rfl) rfl) ?_
    refine GSteps.cons (gm_val (v := nv 6 [t.y.re.val, t.y.im.val]) rfl (fun _ => rfl) (fun _ => rfl) (fun γ w h => ex_loadsn (K := 6) 2 2 (m := [t.y.re.val, t.y.im.val]) flFp2 rfl rfl (A3.keep h.out) rfl rfl) rfl) ?_
    refine GSteps.cons (gm_call (v := nv 6 [z3.re.val, z3.im.val]) rfl (fun _ => rfl) (fun _ => rfl) (fun γ w => ex_call (vs := [nv 6 [s.y.re.val, s.y.im.val], nv 6 [t.y.re.val, t.y.im.val]]) rfl Try.call28 rfl) (fun w h => duoMul_z s.y t.y z3 rfl rfl ez3 _) rfl) ?_
    refine GSteps.cons (gm_new 0 rfl (fun _ => rfl) (fun _ _ => rfl) (fun γ w => ex_allocsn (K := 6) (l := [0, 0]) zFp2) rfl (by kernel_rfl)) ?_
    refine GSteps.cons (gm_new 1 rfl (fun _ => rfl) (fun _ _ => rfl) (fun γ w => ex_allocsn (K := 6) (l := [0, 0]) zFp2) rfl (by kernel_rfl)) ?_
    refine GSteps.cons (gm_store 0 rfl rfl (fun _ => rfl) (len_segs (l := [.n 6 z2.re.val, .n 6 z2.im.val]) (l' := [.n 6 0, .n 6 0]) rfl) (fun γ w h => ex_stores 0 2 (l := [.n 6 0, .n 6 0]) (m := [.n 6 z2.re.val, .n 6 z2.im.val]) flFp2.2 rfl rfl rfl (nv_cells 6 [z2.re.val, z2.im.val]) h rfl rfl) rfl rfl (by kernel_rfl)) ?_
    refine GSteps.cons (gm_store 1 rfl rfl (fun _ => rfl) (len_segs (l := [.n 6 z3.re.val, .n 6 z3.im.val]) (l' := [.n 6 0, .n 6 0]) rfl) (fun γ w h => ex_stores 0 2 (l := [.n 6 0, .n 6 0]) (m := [.n 6 z3.re.val, .n 6 z3.im.val]) flFp2.2 rfl rfl rfl (nv_cells 6 [z3.re.val, z3.im.val]) h rfl rfl) rfl rfl (by kernel_rfl)) ?_
    exact GSteps.nil
  intro γ6 w6 hb6 hB6 hn6
  refine th_r ?_
  have A7 := A2.keep hb6.out
  have A8 := A3.keep hb6.out
  have A9 := A4.keep hb6.out
  have A10 : SB 26 w6 (γ6 0) [.n 6 z2.re.val, .n 6 z2.im.val] := (hB6 0 (by decide)).2
  have le10 := (hB6 0 (by decide)).1
  have A11 : SB 26 w6 (γ6 1) [.n 6 z3.re.val, .n 6 z3.im.val] := (hB6 1 (by decide)).2
  have le11 := (hB6 1 (by decide)).1
  have HB12 := below_then HB5 hb6.out
  refine wp_seq (region_m (F := fun γ => ⟨List.toArray ((sv [.n 6 s.x.re.val, .n 6 s.x.im.val, .n 6 s.y.re.val, .n 6 s.y.im.val, .n 6 s.z.re.val, .n 6 s.z.im.val]) :: (sv [.n 6 t.x.re.val, .n 6 t.x.im.val, .n 6 t.y.re.val, .n 6 t.y.im.val, .n 6 t.z.re.val, .n 6 t.z.im.val]) :: (.pointer (some ⟨(γ1 0), 0, none⟩)) :: (.pointer (some ⟨(γ1 1), 0, none⟩)) :: (.pointer (some ⟨(γ1 2), 0, none⟩)) :: (.pointer (some ⟨(γ6 0), 0, none⟩)) :: (.pointer (some ⟨(γ6 1), 0, none⟩)) :: (.pointer (some ⟨γ 0, 0, none⟩)) :: undef :: undef :: undef :: undef :: undef :: (.pointer (some ⟨(γ1 0), 0, none⟩)) :: (nv 6 [s.x.re.val, s.x.im.val]) :: (.pointer (some ⟨(γ1 1), 0, none⟩)) :: (nv 6 [t.x.re.val, t.x.im.val]) :: (nv 6 [z1.re.val, z1.im.val]) :: (nv 6 [z2.re.val, z2.im.val]) :: (.pointer (some ⟨(γ1 0), 12, none⟩)) :: (nv 6 [s.y.re.val, s.y.im.val]) :: (.pointer (some ⟨(γ1 1), 12, none⟩)) :: (nv 6 [t.y.re.val, t.y.im.val]) :: (nv 6 [z3.re.val, z3.im.val]) :: (nv 6 [12, 12]) :: (.pointer (some ⟨(γ1 0), 24, none⟩)) :: (nv 6 [s.z.re.val, s.z.im.val]) :: (.pointer (some ⟨(γ1 1), 24, none⟩)) :: (nv 6 [t.z.re.val, t.z.im.val]) :: (nv 6 [z4.re.val, z4.im.val]) :: (nv 6 [z5.re.val, z5.im.val]) :: undef :: undef :: undef :: undef :: undef :: undef :: undef :: undef :: undef :: undef :: undef :: undef :: undef :: undef :: undef :: undef :: undef :: undef :: undef :: undef :: undef :: undef :: undef :: undef :: undef :: undef :: undef :: undef :: undef :: undef :: undef :: undef :: undef :: undef :: undef :: undef :: undef :: undef :: undef :: undef :: undef :: undef :: undef :: undef :: undef :: undef :: undef :: undef :: undef :: undef :: undef :: undef :: undef :: undef :: undef :: undef :: undef :: []), []⟩) 1 (fun _ => 26) (fun _ => 7) (fun _ => 8) (fun _ => segs [.n 6 0, .n 6 0]) (fun _ => segs [.n 6 z5.re.val, .n 6 z5.im.val]) [24, 25, 26, 27, 28, 29, 30, 7] (.inl ⟨rfl, by kernel_rfl⟩) (by kernel_rfl) rfl rfl rfl ?_ ?_)
  · refine GSteps.cons (gm_call (v := nv 6 [12, 12]) rfl (fun _ => rfl) (fun _ => rfl) (fun γ w => ex_call (vs := [.int .u64 12]) rfl Try.call30 rfl) (fun w h => twoalike_12 _) rfl) ?_
    refine GSteps.cons (gm_valg (fun γ => .pointer (some ⟨(γ1 0), 24, none⟩)) rfl (fun _ => rfl) (fun _ => rfl) (fun γ w h => ex_field faPG2_2 rfl) rfl) ?_
    refine GSteps.cons (gm_val (v := nv 6 [s.z.re.val, s.z.im.val]) rfl (fun _ => rfl) (fun _ => rfl) (fun γ w h => ex_loadsn (K := 6) 4 2 (m := [s.z.re.val, s.z.im.val]) flFp2 rfl rfl (A7.keep h.out) rfl rfl) rfl) ?_
    refine GSteps.cons (gm_valg (fun γ => .pointer (some ⟨(γ1 1), 24, none⟩)) rfl (fun _ => rfl) (fun _ => rfl) (fun γ w h => ex_field faPG2_2 rfl) rfl) ?_
    refine GSteps.cons (gm_val (v := nv 6 [t.z.re.val, t.z.im.val]) rfl (fun _ => rfl) (fun _ => rfl) (fun γ w h => ex_loadsn (K := 6) 4 2 (m := [t.z.re.val, t.z.im.val]) flFp2 rfl rfl (A8.keep h.out) rfl rfl) rfl) ?_
    refine GSteps.cons (gm_call (v := nv 6 [z4.re.val, z4.im.val]) rfl (fun _ => rfl) (fun _ => rfl) (fun γ w => ex_call (vs := [nv 6 [s.z.re.val, s.z.im.val], nv 6 [t.z.re.val, t.z.im.val]]) rfl Try.call28 rfl) (fun w h => duoMul_z s.z t.z z4 rfl rfl ez4 _) rfl) ?_
    refine GSteps.cons (gm_call (v := nv 6 [z5.re.val, z5.im.val]) rfl (fun _ => rfl) (fun _ => rfl) (fun γ w => ex_call (vs := [nv 6 [12, 12], nv 6 [z4.re.val, z4.im.val]]) rfl Try.call28 rfl) (fun w h => duoMul_z b6 z4 z5 qc1212 rfl ez5 _) rfl) ?_
    refine GSteps.cons (gm_new 0 rfl (fun _ => rfl) (fun _ _ => rfl) (fun γ w => ex_allocsn (K := 6) (l := [0, 0]) zFp2) rfl (by kernel_rfl)) ?_
    refine GSteps.cons (gm_store 0 rfl rfl (fun _ => rfl) (len_segs (l := [.n 6 z5.re.val, .n 6 z5.im.val]) (l' := [.n 6 0, .n 6 0]) rfl) (fun γ w h => ex_stores 0 2 (l := [.n 6 0, .n 6 0]) (m := [.n 6 z5.re.val, .n 6 z5.im.val]) flFp2.2 rfl rfl rfl (nv_cells 6 [z5.re.val, z5.im.val]) h rfl rfl) rfl rfl (by kernel_rfl)) ?_
    exact GSteps.nil
  intro γ13 w13 hb13 hB13 _
  refine th_r ?_
  have A14 := A7.keep hb13.out
  have A15 := A8.keep hb13.out
  have A16 := A9.keep hb13.out
  have A17 := A10.keep hb13.out
  have A18 := A11.keep hb13.out
  have A19 : SB 26 w13 (γ13 0) [.n 6 z5.re.val, .n 6 z5.im.val] := (hB13 0 (by decide)).2
  have le19 := (hB13 0 (by decide)).1
  have HB20 := below_then HB12 hb13.out
  refine wp_seq (region_m (F := fun γ => ⟨List.toArray ((sv [.n 6 s.x.re.val, .n 6 s.x.im.val, .n 6 s.y.re.val, .n 6 s.y.im.val, .n 6 s.z.re.val, .n 6 s.z.im.val]) :: (sv [.n 6 t.x.re.val, .n 6 t.x.im.val, .n 6 t.y.re.val, .n 6 t.y.im.val, .n 6 t.z.re.val, .n 6 t.z.im.val]) :: (.pointer (some ⟨(γ1 0), 0, none⟩)) :: (.pointer (some ⟨(γ1 1), 0, none⟩)) :: (.pointer (some ⟨(γ1 2), 0, none⟩)) :: (.pointer (some ⟨(γ6 0), 0, none⟩)) :: (.pointer (some ⟨(γ6 1), 0, none⟩)) :: (.pointer (some ⟨(γ13 0), 0, none⟩)) :: (.pointer (some ⟨γ 0, 0, none⟩)) :: undef :: undef :: undef :: undef :: (.pointer (some ⟨(γ1 0), 0, none⟩)) :: (nv 6 [s.x.re.val, s.x.im.val]) :: (.pointer (some ⟨(γ1 1), 0, none⟩)) :: (nv 6 [t.x.re.val, t.x.im.val]) :: (nv 6 [z1.re.val, z1.im.val]) :: (nv 6 [z2.re.val, z2.im.val]) :: (.pointer (some ⟨(γ1 0), 12, none⟩)) :: (nv 6 [s.y.re.val, s.y.im.val]) :: (.pointer (some ⟨(γ1 1), 12, none⟩)) :: (nv 6 [t.y.re.val, t.y.im.val]) :: (nv 6 [z3.re.val, z3.im.val]) :: (nv 6 [12, 12]) :: (.pointer (some ⟨(γ1 0), 24, none⟩)) :: (nv 6 [s.z.re.val, s.z.im.val]) :: (.pointer (some ⟨(γ1 1), 24, none⟩)) :: (nv 6 [t.z.re.val, t.z.im.val]) :: (nv 6 [z4.re.val, z4.im.val]) :: (nv 6 [z5.re.val, z5.im.val]) :: (nv 6 [12, 12]) :: (.pointer (some ⟨(γ1 0), 0, none⟩)) :: (nv 6 [s.x.re.val, s.x.im.val]) :: (.pointer (some ⟨(γ1 0), 24, none⟩)) :: (nv 6 [s.z.re.val, s.z.im.val]) :: (.pointer (some ⟨(γ1 1), 0, none⟩)) :: (nv 6 [t.x.re.val, t.x.im.val]) :: (.pointer (some ⟨(γ1 1), 24, none⟩)) :: (nv 6 [t.z.re.val, t.z.im.val]) :: (nv 6 [z6.re.val, z6.im.val]) :: (nv 6 [z7.re.val, z7.im.val]) :: undef :: undef :: undef :: undef :: undef :: undef :: undef :: undef :: undef :: undef :: undef :: undef :: undef :: undef :: undef :: undef :: undef :: undef :: undef :: undef :: undef :: undef :: undef :: undef :: undef :: undef :: undef :: undef :: undef :: undef :: undef :: undef :: undef :: undef :: undef :: undef :: undef :: undef :: undef :: undef :: undef :: undef :: undef :: undef :: undef :: undef :: []), []⟩) 1 (fun _ => 26) (fun _ => 11) (fun _ => 12) (fun _ => segs [.n 6 0, .n 6 0]) (fun _ => segs [.n 6 z7.re.val, .n 6 z7.im.val]) [31, 32, 33, 34, 35, 36, 37, 38, 39, 40, 41, 8] (.inl ⟨rfl, by kernel_rfl⟩) (by kernel_rfl) rfl rfl rfl ?_ ?_)
  · refine GSteps.cons (gm_call (v := nv 6 [12, 12]) rfl (fun _ => rfl) (fun _ => rfl) (fun γ w => ex_call (vs := [.int .u64 12]) rfl Try.call30 rfl) (fun w h => twoalike_12 _) rfl) ?_
    refine GSteps.cons (gm_valg (fun γ => .pointer (some ⟨(γ1 0), 0, none⟩)) rfl (fun _ => rfl) (fun _ => rfl) (fun γ w h => ex_field faPG2_0 rfl) rfl) ?_
    refine GSteps.cons (gm_val (v := nv 6 [s.x.re.val, s.x.im.val]) rfl (fun _ => rfl) (fun _ => rfl) (fun γ w h => ex_loadsn (K := 6) 0 2 (m := [s.x.re.val, s.x.im.val]) flFp2 rfl rfl (A14.keep h.out) rfl rfl) rfl) ?_
    refine GSteps.cons (gm_valg (fun γ => .pointer (some ⟨(γ1 0), 24, none⟩)) rfl (fun _ => rfl) (fun _ => rfl) (fun γ w h => ex_field faPG2_2 rfl) rfl) ?_
    refine GSteps.cons (gm_val (v := nv 6 [s.z.re.val, s.z.im.val]) rfl (fun _ => rfl) (fun _ => rfl) (fun γ w h => ex_loadsn (K := 6) 4 2 (m := [s.z.re.val, s.z.im.val]) flFp2 rfl rfl (A14.keep h.out) rfl rfl) rfl) ?_
    refine GSteps.cons (gm_valg (fun γ => .pointer (some ⟨(γ1 1), 0, none⟩)) rfl (fun _ => rfl) (fun _ => rfl) (fun γ w h => ex_field faPG2_0 rfl) rfl) ?_
    refine GSteps.cons (gm_val (v := nv 6 [t.x.re.val, t.x.im.val]) rfl (fun _ => rfl) (fun _ => rfl) (fun γ w h => ex_loadsn (K := 6) 0 2 (m := [t.x.re.val, t.x.im.val]) flFp2 rfl rfl (A15.keep h.out) rfl rfl) rfl) ?_
    refine GSteps.cons (gm_valg (fun γ => .pointer (some ⟨(γ1 1), 24, none⟩)) rfl (fun _ => rfl) (fun _ => rfl) (fun γ w h => ex_field faPG2_2 rfl) rfl) ?_
    refine GSteps.cons (gm_val (v := nv 6 [t.z.re.val, t.z.im.val]) rfl (fun _ => rfl) (fun _ => rfl) (fun γ w h => ex_loadsn (K := 6) 4 2 (m := [t.z.re.val, t.z.im.val]) flFp2 rfl rfl (A15.keep h.out) rfl rfl) rfl) ?_
    refine GSteps.cons (gm_call (v := nv 6 [z6.re.val, z6.im.val]) rfl (fun _ => rfl) (fun _ => rfl) (fun γ w => ex_call (vs := [nv 6 [s.x.re.val, s.x.im.val], nv 6 [s.z.re.val, s.z.im.val], nv 6 [t.x.re.val, t.x.im.val], nv 6 [t.z.re.val, t.z.im.val]]) rfl Try.call57 rfl) (fun w h => twocrossed_e s.x s.z t.x t.z z6 rfl rfl rfl rfl ez6 _) rfl) ?_
    refine GSteps.cons (gm_call (v := nv 6 [z7.re.val, z7.im.val]) rfl (fun _ => rfl) (fun _ => rfl) (fun γ w => ex_call (vs := [nv 6 [12, 12], nv 6 [z6.re.val, z6.im.val]]) rfl Try.call28 rfl) (fun w h => duoMul_z b6 z6 z7 qc1212 rfl ez7 _) rfl) ?_
    refine GSteps.cons (gm_new 0 rfl (fun _ => rfl) (fun _ _ => rfl) (fun γ w => ex_allocsn (K := 6) (l := [0, 0]) zFp2) rfl (by kernel_rfl)) ?_
    refine GSteps.cons (gm_store 0 rfl rfl (fun _ => rfl) (len_segs (l := [.n 6 z7.re.val, .n 6 z7.im.val]) (l' := [.n 6 0, .n 6 0]) rfl) (fun γ w h => ex_stores 0 2 (l := [.n 6 0, .n 6 0]) (m := [.n 6 z7.re.val, .n 6 z7.im.val]) flFp2.2 rfl rfl rfl (nv_cells 6 [z7.re.val, z7.im.val]) h rfl rfl) rfl rfl (by kernel_rfl)) ?_
    exact GSteps.nil
  intro γ21 w21 hb21 hB21 _
  refine th_r ?_
  have A22 := A14.keep hb21.out
  have A23 := A15.keep hb21.out
  have A24 := A16.keep hb21.out
  have A25 := A17.keep hb21.out
  have A26 := A18.keep hb21.out
  have A27 := A19.keep hb21.out
  have A28 : SB 26 w21 (γ21 0) [.n 6 z7.re.val, .n 6 z7.im.val] := (hB21 0 (by decide)).2
  have le28 := (hB21 0 (by decide)).1
  have HB29 := below_then HB20 hb21.out
  refine wp_seq (region_m (F := fun γ => ⟨List.toArray ((sv [.n 6 s.x.re.val, .n 6 s.x.im.val, .n 6 s.y.re.val, .n 6 s.y.im.val, .n 6 s.z.re.val, .n 6 s.z.im.val]) :: (sv [.n 6 t.x.re.val, .n 6 t.x.im.val, .n 6 t.y.re.val, .n 6 t.y.im.val, .n 6 t.z.re.val, .n 6 t.z.im.val]) :: (.pointer (some ⟨(γ1 0), 0, none⟩)) :: (.pointer (some ⟨(γ1 1), 0, none⟩)) :: (.pointer (some ⟨(γ1 2), 0, none⟩)) :: (.pointer (some ⟨(γ6 0), 0, none⟩)) :: (.pointer (some ⟨(γ6 1), 0, none⟩)) :: (.pointer (some ⟨(γ13 0), 0, none⟩)) :: (.pointer (some ⟨(γ21 0), 0, none⟩)) :: (.pointer (some ⟨γ 0, 0, none⟩)) :: (.pointer (some ⟨γ 1, 0, none⟩)) :: undef :: undef :: (.pointer (some ⟨(γ1 0), 0, none⟩)) :: (nv 6 [s.x.re.val, s.x.im.val]) :: (.pointer (some ⟨(γ1 1), 0, none⟩)) :: (nv 6 [t.x.re.val, t.x.im.val]) :: (nv 6 [z1.re.val, z1.im.val]) :: (nv 6 [z2.re.val, z2.im.val]) :: (.pointer (some ⟨(γ1 0), 12, none⟩)) :: (nv 6 [s.y.re.val, s.y.im.val]) :: (.pointer (some ⟨(γ1 1), 12, none⟩)) :: (nv 6 [t.y.re.val, t.y.im.val]) :: (nv 6 [z3.re.val, z3.im.val]) :: (nv 6 [12, 12]) :: (.pointer (some ⟨(γ1 0), 24, none⟩)) :: (nv 6 [s.z.re.val, s.z.im.val]) :: (.pointer (some ⟨(γ1 1), 24, none⟩)) :: (nv 6 [t.z.re.val, t.z.im.val]) :: (nv 6 [z4.re.val, z4.im.val]) :: (nv 6 [z5.re.val, z5.im.val]) :: (nv 6 [12, 12]) :: (.pointer (some ⟨(γ1 0), 0, none⟩)) :: (nv 6 [s.x.re.val, s.x.im.val]) :: (.pointer (some ⟨(γ1 0), 24, none⟩)) :: (nv 6 [s.z.re.val, s.z.im.val]) :: (.pointer (some ⟨(γ1 1), 0, none⟩)) :: (nv 6 [t.x.re.val, t.x.im.val]) :: (.pointer (some ⟨(γ1 1), 24, none⟩)) :: (nv 6 [t.z.re.val, t.z.im.val]) :: (nv 6 [z6.re.val, z6.im.val]) :: (nv 6 [z7.re.val, z7.im.val]) :: (.pointer (some ⟨(γ1 0), 0, none⟩)) :: (nv 6 [s.x.re.val, s.x.im.val]) :: (.pointer (some ⟨(γ1 0), 12, none⟩)) :: (nv 6 [s.y.re.val, s.y.im.val]) :: (.pointer (some ⟨(γ1 1), 0, none⟩)) :: (nv 6 [t.x.re.val, t.x.im.val]) :: (.pointer (some ⟨(γ1 1), 12, none⟩)) :: (nv 6 [t.y.re.val, t.y.im.val]) :: (nv 6 [z8.re.val, z8.im.val]) :: (.pointer (some ⟨(γ1 0), 12, none⟩)) :: (nv 6 [s.y.re.val, s.y.im.val]) :: (.pointer (some ⟨(γ1 0), 24, none⟩)) :: (nv 6 [s.z.re.val, s.z.im.val]) :: (.pointer (some ⟨(γ1 1), 12, none⟩)) :: (nv 6 [t.y.re.val, t.y.im.val]) :: (.pointer (some ⟨(γ1 1), 24, none⟩)) :: (nv 6 [t.z.re.val, t.z.im.val]) :: (nv 6 [z9.re.val, z9.im.val]) :: undef :: undef :: undef :: undef :: undef :: undef :: undef :: undef :: undef :: undef :: undef :: undef :: undef :: undef :: undef :: undef :: undef :: undef :: undef :: undef :: undef :: undef :: undef :: undef :: undef :: undef :: undef :: undef :: []), []⟩) 2 (fun j_ => match j_ with | 0 => 26 | _ => 26) (fun j_ => match j_ with | 0 => 18 | _ => 19) (fun j_ => match j_ with | 0 => 20 | _ => 21) (fun j_ => match j_ with | 0 => segs [.n 6 0, .n 6 0] | _ => segs [.n 6 0, .n 6 0]) (fun j_ => match j_ with | 0 => segs [.n 6 z8.re.val, .n 6 z8.im.val] | _ => segs [.n 6 z9.re.val, .n 6 z9.im.val]) [42, 43, 44, 45, 46, 47, 48, 49, 50, 51, 52, 53, 54, 55, 56, 57, 58, 59, 9, 10] (.inl ⟨rfl, by kernel_rfl⟩) (by kernel_rfl) rfl rfl rfl ?_ ?_)
  · refine GSteps.cons (gm_valg (fun γ => .pointer (some ⟨(γ1 0), 0, none⟩)) rfl (fun _ => rfl) (fun _ => rfl) (fun γ w h => ex_field faPG2_0 rfl) rfl) ?_
    refine GSteps.cons (gm_val (v := nv 6 [s.x.re.val, s.x.im.val]) rfl (fun _ => rfl) (fun _ => rfl) (fun γ w h => ex_loadsn (K := 6) 0 2 (m := [s.x.re.val, s.x.im.val]) flFp2 rfl rfl (A22.keep h.out) rfl rfl) rfl) ?_
    refine GSteps.cons (gm_valg (fun γ => .pointer (some ⟨(γ1 0), 12, none⟩)) rfl (fun _ => rfl) (fun _ => rfl) (fun γ w h => ex_field faPG2_1 rfl) rfl) ?_
    refine GSteps.cons (gm_val (v := nv 6 [s.y.re.val, s.y.im.val]) rfl (fun _ => rfl) (fun _ => rfl) (fun γ w h => ex_loadsn (K := 6) 2 2 (m := [s.y.re.val, s.y.im.val]) flFp2 rfl rfl (A22.keep h.out) rfl rfl) rfl) ?_
    refine GSteps.cons (gm_valg (fun γ => .pointer (some ⟨(γ1 1), 0, none⟩)) rfl (fun _ => rfl) (fun _ => rfl) (fun γ w h => ex_field faPG2_0 rfl) rfl) ?_
    refine GSteps.cons (gm_val (v := nv 6 [t.x.re.val, t.x.im.val]) rfl (fun _ => rfl) (fun _ => rfl) (fun γ w h => ex_loadsn (K := 6) 0 2 (m := [t.x.re.val, t.x.im.val]) flFp2 rfl rfl (A23.keep h.out) rfl rfl) rfl) ?_
    refine GSteps.cons (gm_valg (fun γ => .pointer (some ⟨(γ1 1), 12, none⟩)) rfl (fun _ => rfl) (fun _ => rfl) (fun γ w h => ex_field faPG2_1 rfl) rfl) ?_
    refine GSteps.cons (gm_val (v := nv 6 [t.y.re.val, t.y.im.val]) rfl (fun _ => rfl) (fun _ => rfl) (fun γ w h => ex_loadsn (K := 6) 2 2 (m := [t.y.re.val, t.y.im.val]) flFp2 rfl rfl (A23.keep h.out) rfl rfl) rfl) ?_
    refine GSteps.cons (gm_call (v := nv 6 [z8.re.val, z8.im.val]) rfl (fun _ => rfl) (fun _ => rfl) (fun γ w => ex_call (vs := [nv 6 [s.x.re.val, s.x.im.val], nv 6 [s.y.re.val, s.y.im.val], nv 6 [t.x.re.val, t.x.im.val], nv 6 [t.y.re.val, t.y.im.val]]) rfl Try.call57 rfl) (fun w h => twocrossed_e s.x s.y t.x t.y z8 rfl rfl rfl rfl ez8 _) rfl) ?_
    refine GSteps.cons (gm_valg (fun γ => .pointer (some ⟨(γ1 0), 12, none⟩)) rfl (fun _ => rfl) (fun _ => rfl) (fun γ w h => ex_field faPG2_1 rfl) rfl) ?_
    refine GSteps.cons (gm_val (v := nv 6 [s.y.re.val, s.y.im.val]) rfl (fun _ => rfl) (fun _ => rfl) (fun γ w h => ex_loadsn (K := 6) 2 2 (m := [s.y.re.val, s.y.im.val]) flFp2 rfl rfl (A22.keep h.out) rfl rfl) rfl) ?_
    refine GSteps.cons (gm_valg (fun γ => .pointer (some ⟨(γ1 0), 24, none⟩)) rfl (fun _ => rfl) (fun _ => rfl) (fun γ w h => ex_field faPG2_2 rfl) rfl) ?_
    refine GSteps.cons (gm_val (v := nv 6 [s.z.re.val, s.z.im.val]) rfl (fun _ => rfl) (fun _ => rfl) (fun γ w h => ex_loadsn (K := 6) 4 2 (m := [s.z.re.val, s.z.im.val]) flFp2 rfl rfl (A22.keep h.out) rfl rfl) rfl) ?_
    refine GSteps.cons (gm_valg (fun γ => .pointer (some ⟨(γ1 1), 12, none⟩)) rfl (fun _ => rfl) (fun _ => rfl) (fun γ w h => ex_field faPG2_1 rfl) rfl) ?_
    refine GSteps.cons (gm_val (v := nv 6 [t.y.re.val, t.y.im.val]) rfl (fun _ => rfl) (fun _ => rfl) (fun γ w h => ex_loadsn (K := 6) 2 2 (m := [t.y.re.val, t.y.im.val]) flFp2 rfl rfl (A23.keep h.out) rfl rfl) rfl) ?_
    refine GSteps.cons (gm_valg (fun γ => .pointer (some ⟨(γ1 1), 24, none⟩)) rfl (fun _ => rfl) (fun _ => rfl) (fun γ w h => ex_field faPG2_2 rfl) rfl) ?_
    refine GSteps.cons (gm_val (v := nv 6 [t.z.re.val, t.z.im.val]) rfl (fun _ => rfl) (fun _ => rfl) (fun γ w h => ex_loadsn (K := 6) 4 2 (m := [t.z.re.val, t.z.im.val]) flFp2 rfl rfl (A23.keep h.out) rfl rfl) rfl) ?_
    refine GSteps.cons (gm_call (v := nv 6 [z9.re.val, z9.im.val]) rfl (fun _ => rfl) (fun _ => rfl) (fun γ w => ex_call (vs := [nv 6 [s.y.re.val, s.y.im.val], nv 6 [s.z.re.val, s.z.im.val], nv 6 [t.y.re.val, t.y.im.val], nv 6 [t.z.re.val, t.z.im.val]]) rfl Try.call57 rfl) (fun w h => twocrossed_e s.y s.z t.y t.z z9 rfl rfl rfl rfl ez9 _) rfl) ?_
    refine GSteps.cons (gm_new 0 rfl (fun _ => rfl) (fun _ _ => rfl) (fun γ w => ex_allocsn (K := 6) (l := [0, 0]) zFp2) rfl (by kernel_rfl)) ?_
    refine GSteps.cons (gm_new 1 rfl (fun _ => rfl) (fun _ _ => rfl) (fun γ w => ex_allocsn (K := 6) (l := [0, 0]) zFp2) rfl (by kernel_rfl)) ?_
    refine GSteps.cons (gm_store 0 rfl rfl (fun _ => rfl) (len_segs (l := [.n 6 z8.re.val, .n 6 z8.im.val]) (l' := [.n 6 0, .n 6 0]) rfl) (fun γ w h => ex_stores 0 2 (l := [.n 6 0, .n 6 0]) (m := [.n 6 z8.re.val, .n 6 z8.im.val]) flFp2.2 rfl rfl rfl (nv_cells 6 [z8.re.val, z8.im.val]) h rfl rfl) rfl rfl (by kernel_rfl)) ?_
    refine GSteps.cons (gm_store 1 rfl rfl (fun _ => rfl) (len_segs (l := [.n 6 z9.re.val, .n 6 z9.im.val]) (l' := [.n 6 0, .n 6 0]) rfl) (fun γ w h => ex_stores 0 2 (l := [.n 6 0, .n 6 0]) (m := [.n 6 z9.re.val, .n 6 z9.im.val]) flFp2.2 rfl rfl rfl (nv_cells 6 [z9.re.val, z9.im.val]) h rfl rfl) rfl rfl (by kernel_rfl)) ?_
    exact GSteps.nil
  intro γ30 w30 hb30 hB30 hn30
  refine th_r ?_
  have A31 := A22.keep hb30.out
  have A32 := A23.keep hb30.out
  have A33 := A24.keep hb30.out
  have A34 := A25.keep hb30.out
  have A35 := A26.keep hb30.out
  have A36 := A27.keep hb30.out
  have A37 := A28.keep hb30.out
  have A38 : SB 26 w30 (γ30 0) [.n 6 z8.re.val, .n 6 z8.im.val] := (hB30 0 (by decide)).2
  have le38 := (hB30 0 (by decide)).1
  have A39 : SB 26 w30 (γ30 1) [.n 6 z9.re.val, .n 6 z9.im.val] := (hB30 1 (by decide)).2
  have le39 := (hB30 1 (by decide)).1
  have HB40 := below_then HB29 hb30.out
  refine wp_seq (region_m (F := fun γ => ⟨List.toArray ((sv [.n 6 s.x.re.val, .n 6 s.x.im.val, .n 6 s.y.re.val, .n 6 s.y.im.val, .n 6 s.z.re.val, .n 6 s.z.im.val]) :: (sv [.n 6 t.x.re.val, .n 6 t.x.im.val, .n 6 t.y.re.val, .n 6 t.y.im.val, .n 6 t.z.re.val, .n 6 t.z.im.val]) :: (.pointer (some ⟨(γ1 0), 0, none⟩)) :: (.pointer (some ⟨(γ1 1), 0, none⟩)) :: (.pointer (some ⟨(γ1 2), 0, none⟩)) :: (.pointer (some ⟨(γ6 0), 0, none⟩)) :: (.pointer (some ⟨(γ6 1), 0, none⟩)) :: (.pointer (some ⟨(γ13 0), 0, none⟩)) :: (.pointer (some ⟨(γ21 0), 0, none⟩)) :: (.pointer (some ⟨(γ30 0), 0, none⟩)) :: (.pointer (some ⟨(γ30 1), 0, none⟩)) :: (.pointer (some ⟨γ 0, 0, none⟩)) :: (.pointer (some ⟨γ 1, 0, none⟩)) :: (.pointer (some ⟨(γ1 0), 0, none⟩)) :: (nv 6 [s.x.re.val, s.x.im.val]) :: (.pointer (some ⟨(γ1 1), 0, none⟩)) :: (nv 6 [t.x.re.val, t.x.im.val]) :: (nv 6 [z1.re.val, z1.im.val]) :: (nv 6 [z2.re.val, z2.im.val]) :: (.pointer (some ⟨(γ1 0), 12, none⟩)) :: (nv 6 [s.y.re.val, s.y.im.val]) :: (.pointer (some ⟨(γ1 1), 12, none⟩)) :: (nv 6 [t.y.re.val, t.y.im.val]) :: (nv 6 [z3.re.val, z3.im.val]) :: (nv 6 [12, 12]) :: (.pointer (some ⟨(γ1 0), 24, none⟩)) :: (nv 6 [s.z.re.val, s.z.im.val]) :: (.pointer (some ⟨(γ1 1), 24, none⟩)) :: (nv 6 [t.z.re.val, t.z.im.val]) :: (nv 6 [z4.re.val, z4.im.val]) :: (nv 6 [z5.re.val, z5.im.val]) :: (nv 6 [12, 12]) :: (.pointer (some ⟨(γ1 0), 0, none⟩)) :: (nv 6 [s.x.re.val, s.x.im.val]) :: (.pointer (some ⟨(γ1 0), 24, none⟩)) :: (nv 6 [s.z.re.val, s.z.im.val]) :: (.pointer (some ⟨(γ1 1), 0, none⟩)) :: (nv 6 [t.x.re.val, t.x.im.val]) :: (.pointer (some ⟨(γ1 1), 24, none⟩)) :: (nv 6 [t.z.re.val, t.z.im.val]) :: (nv 6 [z6.re.val, z6.im.val]) :: (nv 6 [z7.re.val, z7.im.val]) :: (.pointer (some ⟨(γ1 0), 0, none⟩)) :: (nv 6 [s.x.re.val, s.x.im.val]) :: (.pointer (some ⟨(γ1 0), 12, none⟩)) :: (nv 6 [s.y.re.val, s.y.im.val]) :: (.pointer (some ⟨(γ1 1), 0, none⟩)) :: (nv 6 [t.x.re.val, t.x.im.val]) :: (.pointer (some ⟨(γ1 1), 12, none⟩)) :: (nv 6 [t.y.re.val, t.y.im.val]) :: (nv 6 [z8.re.val, z8.im.val]) :: (.pointer (some ⟨(γ1 0), 12, none⟩)) :: (nv 6 [s.y.re.val, s.y.im.val]) :: (.pointer (some ⟨(γ1 0), 24, none⟩)) :: (nv 6 [s.z.re.val, s.z.im.val]) :: (.pointer (some ⟨(γ1 1), 12, none⟩)) :: (nv 6 [t.y.re.val, t.y.im.val]) :: (.pointer (some ⟨(γ1 1), 24, none⟩)) :: (nv 6 [t.z.re.val, t.z.im.val]) :: (nv 6 [z9.re.val, z9.im.val]) :: (nv 6 [z3.re.val, z3.im.val]) :: (nv 6 [z5.re.val, z5.im.val]) :: (nv 6 [z10.re.val, z10.im.val]) :: (nv 6 [z3.re.val, z3.im.val]) :: (nv 6 [z5.re.val, z5.im.val]) :: (nv 6 [z11.re.val, z11.im.val]) :: undef :: undef :: undef :: undef :: undef :: undef :: undef :: undef :: undef :: undef :: undef :: undef :: undef :: undef :: undef :: undef :: undef :: undef :: undef :: undef :: undef :: undef :: []), []⟩) 2 (fun j_ => match j_ with | 0 => 26 | _ => 26) (fun j_ => match j_ with | 0 => 6 | _ => 7) (fun j_ => match j_ with | 0 => 8 | _ => 9) (fun j_ => match j_ with | 0 => segs [.n 6 0, .n 6 0] | _ => segs [.n 6 0, .n 6 0]) (fun j_ => match j_ with | 0 => segs [.n 6 z10.re.val, .n 6 z10.im.val] | _ => segs [.n 6 z11.re.val, .n 6 z11.im.val]) [60, 61, 62, 63, 64, 65, 11, 12] (.inl ⟨rfl, by kernel_rfl⟩) (by kernel_rfl) rfl rfl rfl ?_ ?_)
  · refine GSteps.cons (gm_val (v := nv 6 [z3.re.val, z3.im.val]) rfl (fun _ => rfl) (fun _ => rfl) (fun γ w h => ex_loadsn (K := 6) 0 2 (m := [z3.re.val, z3.im.val]) flFp2 rfl rfl (A35.keep h.out) rfl rfl) rfl) ?_
    refine GSteps.cons (gm_val (v := nv 6 [z5.re.val, z5.im.val]) rfl (fun _ => rfl) (fun _ => rfl) (fun γ w h => ex_loadsn (K := 6) 0 2 (m := [z5.re.val, z5.im.val]) flFp2 rfl rfl (A36.keep h.out) rfl rfl) rfl) ?_
    refine GSteps.cons (gm_call (v := nv 6 [z10.re.val, z10.im.val]) rfl (fun _ => rfl) (fun _ => rfl) (fun γ w => ex_call (vs := [nv 6 [z3.re.val, z3.im.val], nv 6 [z5.re.val, z5.im.val]]) rfl Try.call58 rfl) (fun w h => duoSub_z z3 z5 z10 rfl rfl ez10 _) rfl) ?_
    refine GSteps.cons (gm_val (v := nv 6 [z3.re.val, z3.im.val]) rfl (fun _ => rfl) (fun _ => rfl) (fun γ w h => ex_loadsn (K := 6) 0 2 (m := [z3.re.val, z3.im.val]) flFp2 rfl rfl (A35.keep h.out) rfl rfl) rfl) ?_
    refine GSteps.cons (gm_val (v := nv 6 [z5.re.val, z5.im.val]) rfl (fun _ => rfl) (fun _ => rfl) (fun γ w h => ex_loadsn (K := 6) 0 2 (m := [z5.re.val, z5.im.val]) flFp2 rfl rfl (A36.keep h.out) rfl rfl) rfl) ?_
    refine GSteps.cons (gm_call (v := nv 6 [z11.re.val, z11.im.val]) rfl (fun _ => rfl) (fun _ => rfl) (fun γ w => ex_call (vs := [nv 6 [z3.re.val, z3.im.val], nv 6 [z5.re.val, z5.im.val]]) rfl Try.call29 rfl) (fun w h => duoAdd_z z3 z5 z11 rfl rfl ez11 _) rfl) ?_
    refine GSteps.cons (gm_new 0 rfl (fun _ => rfl) (fun _ _ => rfl) (fun γ w => ex_allocsn (K := 6) (l := [0, 0]) zFp2) rfl (by kernel_rfl)) ?_
    refine GSteps.cons (gm_new 1 rfl (fun _ => rfl) (fun _ _ => rfl) (fun γ w => ex_allocsn (K := 6) (l := [0, 0]) zFp2) rfl (by kernel_rfl)) ?_
    refine GSteps.cons (gm_store 0 rfl rfl (fun _ => rfl) (len_segs (l := [.n 6 z10.re.val, .n 6 z10.im.val]) (l' := [.n 6 0, .n 6 0]) rfl) (fun γ w h => ex_stores 0 2 (l := [.n 6 0, .n 6 0]) (m := [.n 6 z10.re.val, .n 6 z10.im.val]) flFp2.2 rfl rfl rfl (nv_cells 6 [z10.re.val, z10.im.val]) h rfl rfl) rfl rfl (by kernel_rfl)) ?_
    refine GSteps.cons (gm_store 1 rfl rfl (fun _ => rfl) (len_segs (l := [.n 6 z11.re.val, .n 6 z11.im.val]) (l' := [.n 6 0, .n 6 0]) rfl) (fun γ w h => ex_stores 0 2 (l := [.n 6 0, .n 6 0]) (m := [.n 6 z11.re.val, .n 6 z11.im.val]) flFp2.2 rfl rfl rfl (nv_cells 6 [z11.re.val, z11.im.val]) h rfl rfl) rfl rfl (by kernel_rfl)) ?_
    exact GSteps.nil
  intro γ41 w41 hb41 hB41 hn41
  refine th_r ?_
  have A42 := A31.keep hb41.out
  have A43 := A32.keep hb41.out
  have A44 := A33.keep hb41.out
  have A45 := A34.keep hb41.out
  have A46 := A35.keep hb41.out
  have A47 := A36.keep hb41.out
  have A48 := A37.keep hb41.out
  have A49 := A38.keep hb41.out
  have A50 := A39.keep hb41.out
  have A51 : SB 26 w41 (γ41 0) [.n 6 z10.re.val, .n 6 z10.im.val] := (hB41 0 (by decide)).2
  have le51 := (hB41 0 (by decide)).1
  have A52 : SB 26 w41 (γ41 1) [.n 6 z11.re.val, .n 6 z11.im.val] := (hB41 1 (by decide)).2
  have le52 := (hB41 1 (by decide)).1
  have HB53 := below_then HB40 hb41.out
  refine wp_seq (region_ms (F := fun _ => ⟨List.toArray ((sv [.n 6 s.x.re.val, .n 6 s.x.im.val, .n 6 s.y.re.val, .n 6 s.y.im.val, .n 6 s.z.re.val, .n 6 s.z.im.val]) :: (sv [.n 6 t.x.re.val, .n 6 t.x.im.val, .n 6 t.y.re.val, .n 6 t.y.im.val, .n 6 t.z.re.val, .n 6 t.z.im.val]) :: (.pointer (some ⟨(γ1 0), 0, none⟩)) :: (.pointer (some ⟨(γ1 1), 0, none⟩)) :: (.pointer (some ⟨(γ1 2), 0, none⟩)) :: (.pointer (some ⟨(γ6 0), 0, none⟩)) :: (.pointer (some ⟨(γ6 1), 0, none⟩)) :: (.pointer (some ⟨(γ13 0), 0, none⟩)) :: (.pointer (some ⟨(γ21 0), 0, none⟩)) :: (.pointer (some ⟨(γ30 0), 0, none⟩)) :: (.pointer (some ⟨(γ30 1), 0, none⟩)) :: (.pointer (some ⟨(γ41 0), 0, none⟩)) :: (.pointer (some ⟨(γ41 1), 0, none⟩)) :: (.pointer (some ⟨(γ1 0), 0, none⟩)) :: (nv 6 [s.x.re.val, s.x.im.val]) :: (.pointer (some ⟨(γ1 1), 0, none⟩)) :: (nv 6 [t.x.re.val, t.x.im.val]) :: (nv 6 [z1.re.val, z1.im.val]) :: (nv 6 [z2.re.val, z2.im.val]) :: (.pointer (some ⟨(γ1 0), 12, none⟩)) :: (nv 6 [s.y.re.val, s.y.im.val]) :: (.pointer (some ⟨(γ1 1), 12, none⟩)) :: (nv 6 [t.y.re.val, t.y.im.val]) :: (nv 6 [z3.re.val, z3.im.val]) :: (nv 6 [12, 12]) :: (.pointer (some ⟨(γ1 0), 24, none⟩)) :: (nv 6 [s.z.re.val, s.z.im.val]) :: (.pointer (some ⟨(γ1 1), 24, none⟩)) :: (nv 6 [t.z.re.val, t.z.im.val]) :: (nv 6 [z4.re.val, z4.im.val]) :: (nv 6 [z5.re.val, z5.im.val]) :: (nv 6 [12, 12]) :: (.pointer (some ⟨(γ1 0), 0, none⟩)) :: (nv 6 [s.x.re.val, s.x.im.val]) :: (.pointer (some ⟨(γ1 0), 24, none⟩)) :: (nv 6 [s.z.re.val, s.z.im.val]) :: (.pointer (some ⟨(γ1 1), 0, none⟩)) :: (nv 6 [t.x.re.val, t.x.im.val]) :: (.pointer (some ⟨(γ1 1), 24, none⟩)) :: (nv 6 [t.z.re.val, t.z.im.val]) :: (nv 6 [z6.re.val, z6.im.val]) :: (nv 6 [z7.re.val, z7.im.val]) :: (.pointer (some ⟨(γ1 0), 0, none⟩)) :: (nv 6 [s.x.re.val, s.x.im.val]) :: (.pointer (some ⟨(γ1 0), 12, none⟩)) :: (nv 6 [s.y.re.val, s.y.im.val]) :: (.pointer (some ⟨(γ1 1), 0, none⟩)) :: (nv 6 [t.x.re.val, t.x.im.val]) :: (.pointer (some ⟨(γ1 1), 12, none⟩)) :: (nv 6 [t.y.re.val, t.y.im.val]) :: (nv 6 [z8.re.val, z8.im.val]) :: (.pointer (some ⟨(γ1 0), 12, none⟩)) :: (nv 6 [s.y.re.val, s.y.im.val]) :: (.pointer (some ⟨(γ1 0), 24, none⟩)) :: (nv 6 [s.z.re.val, s.z.im.val]) :: (.pointer (some ⟨(γ1 1), 12, none⟩)) :: (nv 6 [t.y.re.val, t.y.im.val]) :: (.pointer (some ⟨(γ1 1), 24, none⟩)) :: (nv 6 [t.z.re.val, t.z.im.val]) :: (nv 6 [z9.re.val, z9.im.val]) :: (nv 6 [z3.re.val, z3.im.val]) :: (nv 6 [z5.re.val, z5.im.val]) :: (nv 6 [z10.re.val, z10.im.val]) :: (nv 6 [z3.re.val, z3.im.val]) :: (nv 6 [z5.re.val, z5.im.val]) :: (nv 6 [z11.re.val, z11.im.val]) :: (nv 6 [z8.re.val, z8.im.val]) :: (nv 6 [z10.re.val, z10.im.val]) :: (nv 6 [z12.re.val, z12.im.val]) :: (nv 6 [z9.re.val, z9.im.val]) :: (nv 6 [z7.re.val, z7.im.val]) :: (nv 6 [z13.re.val, z13.im.val]) :: (nv 6 [z14.re.val, z14.im.val]) :: (nv 6 [z11.re.val, z11.im.val]) :: (nv 6 [z10.re.val, z10.im.val]) :: (nv 6 [z15.re.val, z15.im.val]) :: (nv 6 [z2.re.val, z2.im.val]) :: (nv 6 [z7.re.val, z7.im.val]) :: (nv 6 [z16.re.val, z16.im.val]) :: (nv 6 [z17.re.val, z17.im.val]) :: (nv 6 [z9.re.val, z9.im.val]) :: (nv 6 [z11.re.val, z11.im.val]) :: (nv 6 [z18.re.val, z18.im.val]) :: (nv 6 [z2.re.val, z2.im.val]) :: (nv 6 [z8.re.val, z8.im.val]) :: (nv 6 [z19.re.val, z19.im.val]) :: (nv 6 [z20.re.val, z20.im.val]) :: (sv [.n 6 z14.re.val, .n 6 z14.im.val, .n 6 z17.re.val, .n 6 z17.im.val, .n 6 z20.re.val, .n 6 z20.im.val]) :: []), []⟩) 22 ((γ1 2)) 0 (segs [.n 6 z14.re.val, .n 6 z14.im.val, .n 6 z17.re.val, .n 6 z17.im.val, .n 6 z20.re.val, .n 6 z20.im.val]) 0 (fun _ => 0) (fun _ => 0) (fun _ => 0) (fun _ => []) (fun _ => []) [66, 67, 68, 69, 70, 71, 72, 73, 74, 75, 76, 77, 78, 79, 80, 81, 82, 83, 84, 85, 86, 87] (.inl ⟨rfl, by kernel_rfl⟩) (by kernel_rfl) rfl rfl rfl ?_ ?_)
  · refine GSteps.cons (late_step (gm_val (v := nv 6 [z8.re.val, z8.im.val]) rfl (fun _ => rfl) (fun _ => rfl) (fun γ w h => ex_loadsn (K := 6) 0 2 (m := [z8.re.val, z8.im.val]) flFp2 rfl rfl (A49.keep h.out) rfl rfl) rfl) (by kernel_rfl) rfl) ?_
    refine GSteps.cons (late_step (gm_val (v := nv 6 [z10.re.val, z10.im.val]) rfl (fun _ => rfl) (fun _ => rfl) (fun γ w h => ex_loadsn (K := 6) 0 2 (m := [z10.re.val, z10.im.val]) flFp2 rfl rfl (A51.keep h.out) rfl rfl) rfl) (by kernel_rfl) rfl) ?_
    refine GSteps.cons (late_step (gm_call (v := nv 6 [z12.re.val, z12.im.val]) rfl (fun _ => rfl) (fun _ => rfl) (fun γ w => ex_call (vs := [nv 6 [z8.re.val, z8.im.val], nv 6 [z10.re.val, z10.im.val]]) rfl Try.call28 rfl) (fun w h => duoMul_z z8 z10 z12 rfl rfl ez12 _) rfl) (by kernel_rfl) rfl) ?_
    refine GSteps.cons (late_step (gm_val (v := nv 6 [z9.re.val, z9.im.val]) rfl (fun _ => rfl) (fun _ => rfl) (fun γ w h => ex_loadsn (K := 6) 0 2 (m := [z9.re.val, z9.im.val]) flFp2 rfl rfl (A50.keep h.out) rfl rfl) rfl) (by kernel_rfl) rfl) ?_
    refine GSteps.cons (late_step (gm_val (v := nv 6 [z7.re.val, z7.im.val]) rfl (fun _ => rfl) (fun _ => rfl) (fun γ w h => ex_loadsn (K := 6) 0 2 (m := [z7.re.val, z7.im.val]) flFp2 rfl rfl (A48.keep h.out) rfl rfl) rfl) (by kernel_rfl) rfl) ?_
    refine GSteps.cons (late_step (gm_call (v := nv 6 [z13.re.val, z13.im.val]) rfl (fun _ => rfl) (fun _ => rfl) (fun γ w => ex_call (vs := [nv 6 [z9.re.val, z9.im.val], nv 6 [z7.re.val, z7.im.val]]) rfl Try.call28 rfl) (fun w h => duoMul_z z9 z7 z13 rfl rfl ez13 _) rfl) (by kernel_rfl) rfl) ?_
    refine GSteps.cons (late_step (gm_call (v := nv 6 [z14.re.val, z14.im.val]) rfl (fun _ => rfl) (fun _ => rfl) (fun γ w => ex_call (vs := [nv 6 [z12.re.val, z12.im.val], nv 6 [z13.re.val, z13.im.val]]) rfl Try.call58 rfl) (fun w h => duoSub_z z12 z13 z14 rfl rfl ez14 _) rfl) (by kernel_rfl) rfl) ?_
    refine GSteps.cons (late_step (gm_val (v := nv 6 [z11.re.val, z11.im.val]) rfl (fun _ => rfl) (fun _ => rfl) (fun γ w h => ex_loadsn (K := 6) 0 2 (m := [z11.re.val, z11.im.val]) flFp2 rfl rfl (A52.keep h.out) rfl rfl) rfl) (by kernel_rfl) rfl) ?_
    refine GSteps.cons (late_step (gm_val (v := nv 6 [z10.re.val, z10.im.val]) rfl (fun _ => rfl) (fun _ => rfl) (fun γ w h => ex_loadsn (K := 6) 0 2 (m := [z10.re.val, z10.im.val]) flFp2 rfl rfl (A51.keep h.out) rfl rfl) rfl) (by kernel_rfl) rfl) ?_
    refine GSteps.cons (late_step (gm_call (v := nv 6 [z15.re.val, z15.im.val]) rfl (fun _ => rfl) (fun _ => rfl) (fun γ w => ex_call (vs := [nv 6 [z11.re.val, z11.im.val], nv 6 [z10.re.val, z10.im.val]]) rfl Try.call28 rfl) (fun w h => duoMul_z z11 z10 z15 rfl rfl ez15 _) rfl) (by kernel_rfl) rfl) ?_
    refine GSteps.cons (late_step (gm_val (v := nv 6 [z2.re.val, z2.im.val]) rfl (fun _ => rfl) (fun _ => rfl) (fun γ w h => ex_loadsn (K := 6) 0 2 (m := [z2.re.val, z2.im.val]) flFp2 rfl rfl (A45.keep h.out) rfl rfl) rfl) (by kernel_rfl) rfl) ?_
    refine GSteps.cons (late_step (gm_val (v := nv 6 [z7.re.val, z7.im.val]) rfl (fun _ => rfl) (fun _ => rfl) (fun γ w h => ex_loadsn (K := 6) 0 2 (m := [z7.re.val, z7.im.val]) flFp2 rfl rfl (A48.keep h.out) rfl rfl) rfl) (by kernel_rfl) rfl) ?_
    refine GSteps.cons (late_step (gm_call (v := nv 6 [z16.re.val, z16.im.val]) rfl (fun _ => rfl) (fun _ => rfl) (fun γ w => ex_call (vs := [nv 6 [z2.re.val, z2.im.val], nv 6 [z7.re.val, z7.im.val]]) rfl Try.call28 rfl) (fun w h => duoMul_z z2 z7 z16 rfl rfl ez16 _) rfl) (by kernel_rfl) rfl) ?_
    refine GSteps.cons (late_step (gm_call (v := nv 6 [z17.re.val, z17.im.val]) rfl (fun _ => rfl) (fun _ => rfl) (fun γ w => ex_call (vs := [nv 6 [z15.re.val, z15.im.val], nv 6 [z16.re.val, z16.im.val]]) rfl Try.call29 rfl) (fun w h => duoAdd_z z15 z16 z17 rfl rfl ez17 _) rfl) (by kernel_rfl) rfl) ?_
    refine GSteps.cons (late_step (gm_val (v := nv 6 [z9.re.val, z9.im.val]) rfl (fun _ => rfl) (fun _ => rfl) (fun γ w h => ex_loadsn (K := 6) 0 2 (m := [z9.re.val, z9.im.val]) flFp2 rfl rfl (A50.keep h.out) rfl rfl) rfl) (by kernel_rfl) rfl) ?_
    refine GSteps.cons (late_step (gm_val (v := nv 6 [z11.re.val, z11.im.val]) rfl (fun _ => rfl) (fun _ => rfl) (fun γ w h => ex_loadsn (K := 6) 0 2 (m := [z11.re.val, z11.im.val]) flFp2 rfl rfl (A52.keep h.out) rfl rfl) rfl) (by kernel_rfl) rfl) ?_
    refine GSteps.cons (late_step (gm_call (v := nv 6 [z18.re.val, z18.im.val]) rfl (fun _ => rfl) (fun _ => rfl) (fun γ w => ex_call (vs := [nv 6 [z9.re.val, z9.im.val], nv 6 [z11.re.val, z11.im.val]]) rfl Try.call28 rfl) (fun w h => duoMul_z z9 z11 z18 rfl rfl ez18 _) rfl) (by kernel_rfl) rfl) ?_
    refine GSteps.cons (late_step (gm_val (v := nv 6 [z2.re.val, z2.im.val]) rfl (fun _ => rfl) (fun _ => rfl) (fun γ w h => ex_loadsn (K := 6) 0 2 (m := [z2.re.val, z2.im.val]) flFp2 rfl rfl (A45.keep h.out) rfl rfl) rfl) (by kernel_rfl) rfl) ?_
    refine GSteps.cons (late_step (gm_val (v := nv 6 [z8.re.val, z8.im.val]) rfl (fun _ => rfl) (fun _ => rfl) (fun γ w h => ex_loadsn (K := 6) 0 2 (m := [z8.re.val, z8.im.val]) flFp2 rfl rfl (A49.keep h.out) rfl rfl) rfl) (by kernel_rfl) rfl) ?_
    refine GSteps.cons (late_step (gm_call (v := nv 6 [z19.re.val, z19.im.val]) rfl (fun _ => rfl) (fun _ => rfl) (fun γ w => ex_call (vs := [nv 6 [z2.re.val, z2.im.val], nv 6 [z8.re.val, z8.im.val]]) rfl Try.call28 rfl) (fun w h => duoMul_z z2 z8 z19 rfl rfl ez19 _) rfl) (by kernel_rfl) rfl) ?_
    refine GSteps.cons (late_step (gm_call (v := nv 6 [z20.re.val, z20.im.val]) rfl (fun _ => rfl) (fun _ => rfl) (fun γ w => ex_call (vs := [nv 6 [z18.re.val, z18.im.val], nv 6 [z19.re.val, z19.im.val]]) rfl Try.call29 rfl) (fun w h => duoAdd_z z18 z19 z20 rfl rfl ez20 _) rfl) (by kernel_rfl) rfl) ?_
    refine GSteps.cons (late_step (gm_val (v := sv [.n 6 z14.re.val, .n 6 z14.im.val, .n 6 z17.re.val, .n 6 z17.im.val, .n 6 z20.re.val, .n 6 z20.im.val]) rfl (fun _ => rfl) (fun _ => rfl) (fun γ w h => ex_builds stPG2 (l := [.n 6 z14.re.val, .n 6 z14.im.val, .n 6 z17.re.val, .n 6 z17.im.val, .n 6 z20.re.val, .n 6 z20.im.val]) (vs := [(0, nv 6 [z14.re.val, z14.im.val]), (1, nv 6 [z17.re.val, z17.im.val]), (2, nv 6 [z20.re.val, z20.im.val])]) rfl ((fills_cons 0 2 (m := [.n 6 z14.re.val, .n 6 z14.im.val]) (z' := [.n 6 z14.re.val, .n 6 z14.im.val, .n 6 0, .n 6 0, .n 6 0, .n 6 0]) rfl (nv_cells 6 [z14.re.val, z14.im.val]) rfl rfl rfl rfl).trans ((fills_cons 2 2 (m := [.n 6 z17.re.val, .n 6 z17.im.val]) (z' := [.n 6 z14.re.val, .n 6 z14.im.val, .n 6 z17.re.val, .n 6 z17.im.val, .n 6 0, .n 6 0]) rfl (nv_cells 6 [z17.re.val, z17.im.val]) rfl rfl rfl rfl).trans ((fills_cons 4 2 (m := [.n 6 z20.re.val, .n 6 z20.im.val]) (z' := [.n 6 z14.re.val, .n 6 z14.im.val, .n 6 z17.re.val, .n 6 z17.im.val, .n 6 z20.re.val, .n 6 z20.im.val]) rfl (nv_cells 6 [z20.re.val, z20.im.val]) rfl rfl rfl rfl).trans rfl)))) rfl) (by kernel_rfl) rfl) ?_
    refine GSteps.cons (late_store rfl (fun _ => rfl) (fun γ w h => ex_stores 0 6 (l := [.n 6 0, .n 6 0, .n 6 0, .n 6 0, .n 6 0, .n 6 0]) (m := [.n 6 z14.re.val, .n 6 z14.im.val, .n 6 z17.re.val, .n 6 z17.im.val, .n 6 z20.re.val, .n 6 z20.im.val]) flPG2.2 rfl rfl rfl rfl (A44.keep h.out) rfl rfl) rfl) ?_
    exact GSteps.nil
  intro _ w54 w54_ hb54 _ _ hs54
  refine th_r ?_
  have A55 := A42.keep hb54.out
  have A56 := A43.keep hb54.out
  have A57 := A44.keep hb54.out
  have A58 := A45.keep hb54.out
  have A59 := A46.keep hb54.out
  have A60 := A47.keep hb54.out
  have A61 := A48.keep hb54.out
  have A62 := A49.keep hb54.out
  have A63 := A50.keep hb54.out
  have A64 := A51.keep hb54.out
  have A65 := A52.keep hb54.out
  have HB66 := below_then HB53 hb54.out
  have A67 := hs54.other (hn1 0 2 (by decide) (by decide) (by decide)) A55
  have A68 := hs54.other (hn1 1 2 (by decide) (by decide) (by decide)) A56
  have A69 := hs54.here 0 6 (l' := [.n 6 z14.re.val, .n 6 z14.im.val, .n 6 z17.re.val, .n 6 z17.im.val, .n 6 z20.re.val, .n 6 z20.im.val]) A57 rfl rfl rfl
  have A70 := hs54.other (Ne.symm (Nat.ne_of_lt (Nat.lt_of_lt_of_le A4.lt le10))) A58
  have A71 := hs54.other (Ne.symm (Nat.ne_of_lt (Nat.lt_of_lt_of_le A4.lt le11))) A59
  have A72 := hs54.other (Ne.symm (Nat.ne_of_lt (Nat.lt_of_lt_of_le A9.lt le19))) A60
  have A73 := hs54.other (Ne.symm (Nat.ne_of_lt (Nat.lt_of_lt_of_le A16.lt le28))) A61
  have A74 := hs54.other (Ne.symm (Nat.ne_of_lt (Nat.lt_of_lt_of_le A24.lt le38))) A62
  have A75 := hs54.other (Ne.symm (Nat.ne_of_lt (Nat.lt_of_lt_of_le A24.lt le39))) A63
  have A76 := hs54.other (Ne.symm (Nat.ne_of_lt (Nat.lt_of_lt_of_le A33.lt le51))) A64
  have A77 := hs54.other (Ne.symm (Nat.ne_of_lt (Nat.lt_of_lt_of_le A33.lt le52))) A65
  have HB78 := hs54.below HB66 (Nat.le_trans (Nat.le_refl _) le4)
  exact wp_ret (bodyPost_ret (ret1 Try.results37 (res_sv rfl A69 flPG2 rfl)) rfl ⟨rfl, HB78⟩)

set_option maxRecDepth 20000 in
set_option maxHeartbeats 4000000 in
theorem twoZero_v (w : World) :
    Calls Try.prog 10 #[] w (Is (sv [.n 6 0, .n 6 0, .n 6 0, .n 6 0, .b true]) w) := by
  go_enter Try.func10, Try.ntmps10
  refine wp_seq (region_m (F := fun γ => ⟨#[.pointer (some ⟨γ 0, 0, none⟩), undef], []⟩) 1 (fun _ => 28) (fun _ => 0) (fun _ => 0) (fun _ => segs [.n 6 0, .n 6 0, .n 6 0, .n 6 0, .b false]) (fun _ => segs [.n 6 0, .n 6 0, .n 6 0, .n 6 0, .b false]) [0] (.inr ⟨rfl, by kernel_rfl⟩) (by kernel_rfl) rfl rfl rfl ?_ ?_)
  · refine GSteps.cons (gm_box 0 rfl (fun _ => rfl) (fun _ _ => rfl) (fun γ w h => ex_allocs (l := [.n 6 0, .n 6 0, .n 6 0, .n 6 0, .b false]) zG2) rfl rfl rfl) ?_
    exact GSteps.nil
  intro γ1 w1 hb1 hB1 _
  refine th_r ?_
  have A2 : SB 28 w1 (γ1 0) [.n 6 0, .n 6 0, .n 6 0, .n 6 0, .b false] := (hB1 0 (by decide)).2
  have le2 := (hB1 0 (by decide)).1
  have HB3 := below_then (Below.refl w.heap.size w) hb1.out
  refine wp_seq (region_ms (F := fun _ => ⟨#[.pointer (some ⟨(γ1 0), 0, none⟩), sv [.n 6 0, .n 6 0, .n 6 0, .n 6 0, .b true]], []⟩) 1 ((γ1 0)) 0 (segs [.n 6 0, .n 6 0, .n 6 0, .n 6 0, .b true]) 0 (fun _ => 0) (fun _ => 0) (fun _ => 0) (fun _ => []) (fun _ => []) [1] (.inr ⟨rfl, by kernel_rfl⟩) (by kernel_rfl) rfl rfl rfl ?_ ?_)
  · refine GSteps.cons (late_step (gm_val (v := sv [.n 6 0, .n 6 0, .n 6 0, .n 6 0, .b true]) rfl (fun _ => rfl) (fun _ => rfl) (fun γ w h => ex_builds stG2 (l := [.n 6 0, .n 6 0, .n 6 0, .n 6 0, .b true]) (vs := [(2, .bool true)]) rfl ((fills_cons 4 1 (m := [.b true]) (z' := [.n 6 0, .n 6 0, .n 6 0, .n 6 0, .b true]) rfl (bool_cells true) rfl rfl rfl rfl).trans rfl)) rfl) (by kernel_rfl) rfl) ?_
    refine GSteps.cons (late_store rfl (fun _ => rfl) (fun γ w h => ex_stores 0 5 (l := [.n 6 0, .n 6 0, .n 6 0, .n 6 0, .b false]) (m := [.n 6 0, .n 6 0, .n 6 0, .n 6 0, .b true]) flG2.2 rfl rfl rfl rfl (A2.keep h.out) rfl rfl) rfl) ?_
    exact GSteps.nil
  intro _ w4 w4_ hb4 _ _ hs4
  refine th_r ?_
  have A5 := A2.keep hb4.out
  have HB6 := below_then HB3 hb4.out
  have A7 := hs4.here 0 5 (l' := [.n 6 0, .n 6 0, .n 6 0, .n 6 0, .b true]) A5 rfl rfl rfl
  have HB8 := hs4.below HB6 (Nat.le_trans (Nat.le_refl _) le2)
  exact wp_ret (bodyPost_ret (ret1 Try.results10 (res_sv rfl A7 flG2 rfl)) rfl ⟨rfl, HB8⟩)

set_option maxRecDepth 20000 in
set_option maxHeartbeats 4000000 in
theorem twonowhere_v (w : World) :
    Calls Try.prog 50 #[] w (Is (sv [.n 6 0, .n 6 0, .n 6 1, .n 6 0, .n 6 0, .n 6 0]) w) := by
  go_enter Try.func50, Try.ntmps50
  refine wp_seq (region_m (F := fun γ => ⟨#[.pointer (some ⟨γ 0, 0, none⟩), undef, undef], []⟩) 1 (fun _ => 51) (fun _ => 0) (fun _ => 0) (fun _ => segs [.n 6 0, .n 6 0, .n 6 0, .n 6 0, .n 6 0, .n 6 0]) (fun _ => segs [.n 6 0, .n 6 0, .n 6 0, .n 6 0, .n 6 0, .n 6 0]) [0] (.inr ⟨rfl, by kernel_rfl⟩) (by kernel_rfl) rfl rfl rfl ?_ ?_)
  · refine GSteps.cons (gm_box 0 rfl (fun _ => rfl) (fun _ _ => rfl) (fun γ w h => ex_allocs (l := [.n 6 0, .n 6 0, .n 6 0, .n 6 0, .n 6 0, .n 6 0]) zPG2) rfl rfl rfl) ?_
    exact GSteps.nil
  intro γ1 w1 hb1 hB1 _
  refine th_r ?_
  have A2 : SB 51 w1 (γ1 0) [.n 6 0, .n 6 0, .n 6 0, .n 6 0, .n 6 0, .n 6 0] := (hB1 0 (by decide)).2
  have le2 := (hB1 0 (by decide)).1
  have HB3 := below_then (Below.refl w.heap.size w) hb1.out
  refine wp_seq (region_ms (F := fun _ => ⟨#[.pointer (some ⟨(γ1 0), 0, none⟩), nv 6 [1, 0], sv [.n 6 0, .n 6 0, .n 6 1, .n 6 0, .n 6 0, .n 6 0]], []⟩) 2 ((γ1 0)) 0 (segs [.n 6 0, .n 6 0, .n 6 1, .n 6 0, .n 6 0, .n 6 0]) 0 (fun _ => 0) (fun _ => 0) (fun _ => 0) (fun _ => []) (fun _ => []) [1, 2] (.inr ⟨rfl, by kernel_rfl⟩) (by kernel_rfl) rfl rfl rfl ?_ ?_)
  · refine GSteps.cons (late_step (gm_call (v := nv 6 [1, 0]) rfl (fun _ => rfl) (fun _ => rfl) (fun γ w => ex_call (vs := []) rfl Try.call51 rfl) (fun w h => twoone_v _) rfl) (by kernel_rfl) rfl) ?_
    refine GSteps.cons (late_step (gm_val (v := sv [.n 6 0, .n 6 0, .n 6 1, .n 6 0, .n 6 0, .n 6 0]) rfl (fun _ => rfl) (fun _ => rfl) (fun γ w h => ex_builds stPG2 (l := [.n 6 0, .n 6 0, .n 6 1, .n 6 0, .n 6 0, .n 6 0]) (vs := [(1, nv 6 [1, 0])]) rfl ((fills_cons 2 2 (m := [.n 6 1, .n 6 0]) (z' := [.n 6 0, .n 6 0, .n 6 1, .n 6 0, .n 6 0, .n 6 0]) rfl (nv_cells 6 [1, 0]) rfl rfl rfl rfl).trans rfl)) rfl) (by kernel_rfl) rfl) ?_
    refine GSteps.cons (late_store rfl (fun _ => rfl) (fun γ w h => ex_stores 0 6 (l := [.n 6 0, .n 6 0, .n 6 0, .n 6 0, .n 6 0, .n 6 0]) (m := [.n 6 0, .n 6 0, .n 6 1, .n 6 0, .n 6 0, .n 6 0]) flPG2.2 rfl rfl rfl rfl (A2.keep h.out) rfl rfl) rfl) ?_
    exact GSteps.nil
  intro _ w4 w4_ hb4 _ _ hs4
  refine th_r ?_
  have A5 := A2.keep hb4.out
  have HB6 := below_then HB3 hb4.out
  have A7 := hs4.here 0 6 (l' := [.n 6 0, .n 6 0, .n 6 1, .n 6 0, .n 6 0, .n 6 0]) A5 rfl rfl rfl
  have HB8 := hs4.below HB6 (Nat.le_trans (Nat.le_refl _) le2)
  exact wp_ret (bodyPost_ret (ret1 Try.results50 (res_sv rfl A7 flPG2 rfl)) rfl ⟨rfl, HB8⟩)

theorem twonowhere_t : sv [.n 6 0, .n 6 0, .n 6 1, .n 6 0, .n 6 0, .n 6 0] = sv [.n 6 ((0 : Zq).re.val), .n 6 ((0 : Zq).im.val), .n 6 ((1 : Zq).re.val), .n 6 ((1 : Zq).im.val), .n 6 ((0 : Zq).re.val), .n 6 ((0 : Zq).im.val)] := by
  have h0 := qc0
  have h1 := qc1
  simp only [List.cons.injEq, and_true] at h0 h1
  rw [← h0.1, ← h0.2, ← h1.1, ← h1.2]

set_option maxRecDepth 20000 in
set_option maxHeartbeats 4000000 in
theorem twobring_inf (w : World) :
    Calls Try.prog 31 #[sv [.n 6 0, .n 6 0, .n 6 0, .n 6 0, .b true]] w (Is (sv [.n 6 0, .n 6 0, .n 6 1, .n 6 0, .n 6 0, .n 6 0]) w) := by
  go_enter Try.func31, Try.ntmps31
  refine wp_seq (region_m (F := fun γ => ⟨#[sv [.n 6 0, .n 6 0, .n 6 0, .n 6 0, .b true], .pointer (some ⟨γ 0, 0, none⟩), .pointer (some ⟨γ 1, 0, none⟩), undef, undef, undef, undef, undef, undef, undef, undef, undef], []⟩) 2 (fun j_ => match j_ with | 0 => 28 | _ => 51) (fun j_ => match j_ with | 0 => 0 | _ => 1) (fun j_ => match j_ with | 0 => 0 | _ => 1) (fun j_ => match j_ with | 0 => segs [.n 6 0, .n 6 0, .n 6 0, .n 6 0, .b true] | _ => segs [.n 6 0, .n 6 0, .n 6 0, .n 6 0, .n 6 0, .n 6 0]) (fun j_ => match j_ with | 0 => segs [.n 6 0, .n 6 0, .n 6 0, .n 6 0, .b true] | _ => segs [.n 6 0, .n 6 0, .n 6 0, .n 6 0, .n 6 0, .n 6 0]) [1, 2] (.inr ⟨rfl, by kernel_rfl⟩) (by kernel_rfl) rfl rfl rfl ?_ ?_)
  · refine GSteps.cons (gm_box 0 rfl (fun _ => rfl) (fun _ _ => rfl) (fun γ w h => ex_boxs (l := [.n 6 0, .n 6 0, .n 6 0, .n 6 0, .b true]) rfl) rfl rfl rfl) ?_
    refine GSteps.cons (gm_box 1 rfl (fun _ => rfl) (fun _ _ => rfl) (fun γ w h => ex_allocs (l := [.n 6 0, .n 6 0, .n 6 0, .n 6 0, .n 6 0, .n 6 0]) zPG2) rfl rfl rfl) ?_
    exact GSteps.nil
  intro γ1 w1 hb1 hB1 hn1
  refine th_r ?_
  have A2 : SB 28 w1 (γ1 0) [.n 6 0, .n 6 0, .n 6 0, .n 6 0, .b true] := (hB1 0 (by decide)).2
  have le2 := (hB1 0 (by decide)).1
  have A3 : SB 51 w1 (γ1 1) [.n 6 0, .n 6 0, .n 6 0, .n 6 0, .n 6 0, .n 6 0] := (hB1 1 (by decide)).2
  have le3 := (hB1 1 (by decide)).1
  have HB4 := below_then (Below.refl w.heap.size w) hb1.out
  refine wp_seq ?_
  refine wp_seq (region_m (F := fun _ => ⟨#[sv [.n 6 0, .n 6 0, .n 6 0, .n 6 0, .b true], .pointer (some ⟨(γ1 0), 0, none⟩), .pointer (some ⟨(γ1 1), 0, none⟩), .pointer (some ⟨(γ1 0), 24, none⟩), .bool true, undef, undef, undef, undef, undef, undef, undef], []⟩) 0 (fun _ => 0) (fun _ => 0) (fun _ => 0) (fun _ => []) (fun _ => []) [3, 4] (.inr ⟨rfl, by kernel_rfl⟩) (by kernel_rfl) rfl rfl rfl ?_ ?_)
  · refine GSteps.cons (gm_valg (fun γ => .pointer (some ⟨(γ1 0), 24, none⟩)) rfl (fun _ => rfl) (fun _ => rfl) (fun γ w h => ex_field faG2_2 rfl) rfl) ?_
    refine GSteps.cons (gm_val (v := .bool true) rfl (fun _ => rfl) (fun _ => rfl) (fun γ w h => ex_load1 4 (s := .b true) (v := .bool true) sgBool rfl (A2.keep h.out) rfl rfl rfl) rfl) ?_
    exact GSteps.nil
  intro _ w5 hb5 _ _
  refine th_r ?_
  have A6 := A2.keep hb5.out
  have A7 := A3.keep hb5.out
  have HB8 := below_then HB4 hb5.out
  refine wp_cond_true rfl ?_
  refine wp_seq (region_ms (F := fun _ => ⟨#[sv [.n 6 0, .n 6 0, .n 6 0, .n 6 0, .b true], .pointer (some ⟨(γ1 0), 0, none⟩), .pointer (some ⟨(γ1 1), 0, none⟩), .pointer (some ⟨(γ1 0), 24, none⟩), .bool true, sv [.n 6 0, .n 6 0, .n 6 1, .n 6 0, .n 6 0, .n 6 0], undef, undef, undef, undef, undef, undef], []⟩) 1 ((γ1 1)) 0 (segs [.n 6 0, .n 6 0, .n 6 1, .n 6 0, .n 6 0, .n 6 0]) 0 (fun _ => 0) (fun _ => 0) (fun _ => 0) (fun _ => []) (fun _ => []) [5] (.inr ⟨rfl, by kernel_rfl⟩) (by kernel_rfl) rfl rfl rfl ?_ ?_)
  · refine GSteps.cons (late_step (gm_call (v := sv [.n 6 0, .n 6 0, .n 6 1, .n 6 0, .n 6 0, .n 6 0]) rfl (fun _ => rfl) (fun _ => rfl) (fun γ w => ex_call (vs := []) rfl Try.call50 rfl) (fun w h => twonowhere_v _) rfl) (by kernel_rfl) rfl) ?_
    refine GSteps.cons (late_store rfl (fun _ => rfl) (fun γ w h => ex_stores 0 6 (l := [.n 6 0, .n 6 0, .n 6 0, .n 6 0, .n 6 0, .n 6 0]) (m := [.n 6 0, .n 6 0, .n 6 1, .n 6 0, .n 6 0, .n 6 0]) flPG2.2 rfl rfl rfl rfl (A7.keep h.out) rfl rfl) rfl) ?_
    exact GSteps.nil
  intro _ w9 w9_ hb9 _ _ hs9
  refine th_r ?_
  have A10 := A6.keep hb9.out
  have A11 := A7.keep hb9.out
  have HB12 := below_then HB8 hb9.out
  have A13 := hs9.other (hn1 0 1 (by decide) (by decide) (by decide)) A10
  have A14 := hs9.here 0 6 (l' := [.n 6 0, .n 6 0, .n 6 1, .n 6 0, .n 6 0, .n 6 0]) A11 rfl rfl rfl
  have HB15 := hs9.below HB12 (Nat.le_trans (Nat.le_refl _) le3)
  exact wp_ret (th_ret (bodyPost_ret (ret1 Try.results31 (res_sv rfl A14 flPG2 rfl)) rfl ⟨rfl, HB15⟩))

set_option maxRecDepth 20000 in
set_option maxHeartbeats 4000000 in
theorem twobring_aff (x y : Zq) (w : World) :
    Calls Try.prog 31 #[sv [.n 6 x.re.val, .n 6 x.im.val, .n 6 y.re.val, .n 6 y.im.val, .b false]] w (Is (sv [.n 6 x.re.val, .n 6 x.im.val, .n 6 y.re.val, .n 6 y.im.val, .n 6 1, .n 6 0]) w) := by
  go_enter Try.func31, Try.ntmps31
  refine wp_seq (region_m (F := fun γ => ⟨#[sv [.n 6 x.re.val, .n 6 x.im.val, .n 6 y.re.val, .n 6 y.im.val, .b false], .pointer (some ⟨γ 0, 0, none⟩), .pointer (some ⟨γ 1, 0, none⟩), undef, undef, undef, undef, undef, undef, undef, undef, undef], []⟩) 2 (fun j_ => match j_ with | 0 => 28 | _ => 51) (fun j_ => match j_ with | 0 => 0 | _ => 1) (fun j_ => match j_ with | 0 => 0 | _ => 1) (fun j_ => match j_ with | 0 => segs [.n 6 x.re.val, .n 6 x.im.val, .n 6 y.re.val, .n 6 y.im.val, .b false] | _ => segs [.n 6 0, .n 6 0, .n 6 0, .n 6 0, .n 6 0, .n 6 0]) (fun j_ => match j_ with | 0 => segs [.n 6 x.re.val, .n 6 x.im.val, .n 6 y.re.val, .n 6 y.im.val, .b false] | _ => segs [.n 6 0, .n 6 0, .n 6 0, .n 6 0, .n 6 0, .n 6 0]) [1, 2] (.inr ⟨rfl, by kernel_rfl⟩) (by kernel_rfl) rfl rfl rfl ?_ ?_)
  · refine GSteps.cons (gm_box 0 rfl (fun _ => rfl) (fun _ _ => rfl) (fun γ w h => ex_boxs (l := [.n 6 x.re.val, .n 6 x.im.val, .n 6 y.re.val, .n 6 y.im.val, .b false]) rfl) rfl rfl rfl) ?_
    refine GSteps.cons (gm_box 1 rfl (fun _ => rfl) (fun _ _ => rfl) (fun γ w h => ex_allocs (l := [.n 6 0, .n 6 0, .n 6 0, .n 6 0, .n 6 0, .n 6 0]) zPG2) rfl rfl rfl) ?_
    exact GSteps.nil
  intro γ1 w1 hb1 hB1 hn1
  refine th_r ?_
  have A2 : SB 28 w1 (γ1 0) [.n 6 x.re.val, .n 6 x.im.val, .n 6 y.re.val, .n 6 y.im.val, .b false] := (hB1 0 (by decide)).2
  have le2 := (hB1 0 (by decide)).1
  have A3 : SB 51 w1 (γ1 1) [.n 6 0, .n 6 0, .n 6 0, .n 6 0, .n 6 0, .n 6 0] := (hB1 1 (by decide)).2
  have le3 := (hB1 1 (by decide)).1
  have HB4 := below_then (Below.refl w.heap.size w) hb1.out
  refine wp_seq ?_
  refine wp_seq (region_m (F := fun _ => ⟨#[sv [.n 6 x.re.val, .n 6 x.im.val, .n 6 y.re.val, .n 6 y.im.val, .b false], .pointer (some ⟨(γ1 0), 0, none⟩), .pointer (some ⟨(γ1 1), 0, none⟩), .pointer (some ⟨(γ1 0), 24, none⟩), .bool false, undef, undef, undef, undef, undef, undef, undef], []⟩) 0 (fun _ => 0) (fun _ => 0) (fun _ => 0) (fun _ => []) (fun _ => []) [3, 4] (.inr ⟨rfl, by kernel_rfl⟩) (by kernel_rfl) rfl rfl rfl ?_ ?_)
  · refine GSteps.cons (gm_valg (fun γ => .pointer (some ⟨(γ1 0), 24, none⟩)) rfl (fun _ => rfl) (fun _ => rfl) (fun γ w h => ex_field faG2_2 rfl) rfl) ?_
    refine GSteps.cons (gm_val (v := .bool false) rfl (fun _ => rfl) (fun _ => rfl) (fun γ w h => ex_load1 4 (s := .b false) (v := .bool false) sgBool rfl (A2.keep h.out) rfl rfl rfl) rfl) ?_
    exact GSteps.nil
  intro _ w5 hb5 _ _
  refine th_r ?_
  have A6 := A2.keep hb5.out
  have A7 := A3.keep hb5.out
  have HB8 := below_then HB4 hb5.out
  refine wp_cond_false rfl ?_
  refine wp_skip ?_
  refine th_r ?_
  refine wp_seq (region_ms (F := fun _ => ⟨#[sv [.n 6 x.re.val, .n 6 x.im.val, .n 6 y.re.val, .n 6 y.im.val, .b false], .pointer (some ⟨(γ1 0), 0, none⟩), .pointer (some ⟨(γ1 1), 0, none⟩), .pointer (some ⟨(γ1 0), 24, none⟩), .bool false, undef, .pointer (some ⟨(γ1 0), 0, none⟩), nv 6 [x.re.val, x.im.val], .pointer (some ⟨(γ1 0), 12, none⟩), nv 6 [y.re.val, y.im.val], nv 6 [1, 0], sv [.n 6 x.re.val, .n 6 x.im.val, .n 6 y.re.val, .n 6 y.im.val, .n 6 1, .n 6 0]], []⟩) 6 ((γ1 1)) 0 (segs [.n 6 x.re.val, .n 6 x.im.val, .n 6 y.re.val, .n 6 y.im.val, .n 6 1, .n 6 0]) 0 (fun _ => 0) (fun _ => 0) (fun _ => 0) (fun _ => []) (fun _ => []) [6, 7, 8, 9, 10, 11] (.inl ⟨rfl, by kernel_rfl⟩) (by kernel_rfl) rfl rfl rfl ?_ ?_)
  · refine GSteps.cons (late_step (gm_valg (fun γ => .pointer (some ⟨(γ1 0), 0, none⟩)) rfl (fun _ => rfl) (fun _ => rfl) (fun γ w h => ex_field faG2_0 rfl) rfl) (by kernel_rfl) rfl) ?_
    refine GSteps.cons (late_step (gm_val (v := nv 6 [x.re.val, x.im.val]) rfl (fun _ => rfl) (fun _ => rfl) (fun γ w h => ex_loadsn (K := 6) 0 2 (m := [x.re.val, x.im.val]) flFp2 rfl rfl (A6.keep h.out) rfl rfl) rfl) (by kernel_rfl) rfl) ?_
    refine GSteps.cons (late_step (gm_valg (fun γ => .pointer (some ⟨(γ1 0), 12, none⟩)) rfl (fun _ => rfl) (fun _ => rfl) (fun γ w h => ex_field faG2_1 rfl) rfl) (by kernel_rfl) rfl) ?_
    refine GSteps.cons (late_step (gm_val (v := nv 6 [y.re.val, y.im.val]) rfl (fun _ => rfl) (fun _ => rfl) (fun γ w h => ex_loadsn (K := 6) 2 2 (m := [y.re.val, y.im.val]) flFp2 rfl rfl (A6.keep h.out) rfl rfl) rfl) (by kernel_rfl) rfl) ?_
    refine GSteps.cons (late_step (gm_call (v := nv 6 [1, 0]) rfl (fun _ => rfl) (fun _ => rfl) (fun γ w => ex_call (vs := []) rfl Try.call51 rfl) (fun w h => twoone_v _) rfl) (by kernel_rfl) rfl) ?_
    refine GSteps.cons (late_step (gm_val (v := sv [.n 6 x.re.val, .n 6 x.im.val, .n 6 y.re.val, .n 6 y.im.val, .n 6 1, .n 6 0]) rfl (fun _ => rfl) (fun _ => rfl) (fun γ w h => ex_builds stPG2 (l := [.n 6 x.re.val, .n 6 x.im.val, .n 6 y.re.val, .n 6 y.im.val, .n 6 1, .n 6 0]) (vs := [(0, nv 6 [x.re.val, x.im.val]), (1, nv 6 [y.re.val, y.im.val]), (2, nv 6 [1, 0])]) rfl ((fills_cons 0 2 (m := [.n 6 x.re.val, .n 6 x.im.val]) (z' := [.n 6 x.re.val, .n 6 x.im.val, .n 6 0, .n 6 0, .n 6 0, .n 6 0]) rfl (nv_cells 6 [x.re.val, x.im.val]) rfl rfl rfl rfl).trans ((fills_cons 2 2 (m := [.n 6 y.re.val, .n 6 y.im.val]) (z' := [.n 6 x.re.val, .n 6 x.im.val, .n 6 y.re.val, .n 6 y.im.val, .n 6 0, .n 6 0]) rfl (nv_cells 6 [y.re.val, y.im.val]) rfl rfl rfl rfl).trans ((fills_cons 4 2 (m := [.n 6 1, .n 6 0]) (z' := [.n 6 x.re.val, .n 6 x.im.val, .n 6 y.re.val, .n 6 y.im.val, .n 6 1, .n 6 0]) rfl (nv_cells 6 [1, 0]) rfl rfl rfl rfl).trans rfl)))) rfl) (by kernel_rfl) rfl) ?_
    refine GSteps.cons (late_store rfl (fun _ => rfl) (fun γ w h => ex_stores 0 6 (l := [.n 6 0, .n 6 0, .n 6 0, .n 6 0, .n 6 0, .n 6 0]) (m := [.n 6 x.re.val, .n 6 x.im.val, .n 6 y.re.val, .n 6 y.im.val, .n 6 1, .n 6 0]) flPG2.2 rfl rfl rfl rfl (A7.keep h.out) rfl rfl) rfl) ?_
    exact GSteps.nil
  intro _ w9 w9_ hb9 _ _ hs9
  refine th_r ?_
  have A10 := A6.keep hb9.out
  have A11 := A7.keep hb9.out
  have HB12 := below_then HB8 hb9.out
  have A13 := hs9.other (hn1 0 1 (by decide) (by decide) (by decide)) A10
  have A14 := hs9.here 0 6 (l' := [.n 6 x.re.val, .n 6 x.im.val, .n 6 y.re.val, .n 6 y.im.val, .n 6 1, .n 6 0]) A11 rfl rfl rfl
  have HB15 := hs9.below HB12 (Nat.le_trans (Nat.le_refl _) le3)
  exact wp_ret (bodyPost_ret (ret1 Try.results31 (res_sv rfl A14 flPG2 rfl)) rfl ⟨rfl, HB15⟩)

/-- What a point is brought in as. -/
def twoTri : Pt Zq → Tri Zq
  | .inf => ⟨0, 1, 0⟩
  | .aff x y => ⟨x, y, 1⟩
theorem twoTri_is (P : Pt Zq) : (twoTri P).Is P := by
  cases P with
  | inf => exact ⟨rfl, rfl, one_ne FdQ⟩
  | aff x y => exact ⟨by show x = x * 1; grind, by show y = y * 1; grind, one_ne FdQ⟩
theorem twobring_q (P : Pt Zq) (w : World) :
    Calls Try.prog 31 #[sv [.n 6 (bx0 P), .n 6 (bx1 P), .n 6 (by0 P), .n 6 (by1 P), .b (bi P)]] w (Is (sv [.n 6 (((twoTri P).x).re.val), .n 6 (((twoTri P).x).im.val), .n 6 (((twoTri P).y).re.val), .n 6 (((twoTri P).y).im.val), .n 6 (((twoTri P).z).re.val), .n 6 (((twoTri P).z).im.val)]) w) := by
  cases P with
  | inf =>
    have h := twobring_inf w
    rw [twonowhere_t] at h
    exact h
  | aff x y =>
    have h := twobring_aff x y w
    have h1 := qc1
    simp only [List.cons.injEq, and_true] at h1
    simp only [h1.1, h1.2] at h
    exact h

set_option maxRecDepth 20000 in
set_option maxHeartbeats 4000000 in
theorem twoback_inf (t : Tri Zq) (hz : t.z = 0) (w : World) :
    Calls Try.prog 33 #[sv [.n 6 t.x.re.val, .n 6 t.x.im.val, .n 6 t.y.re.val, .n 6 t.y.im.val, .n 6 t.z.re.val, .n 6 t.z.im.val]] w (Is (sv [.n 6 0, .n 6 0, .n 6 0, .n 6 0, .b true]) w) := by
  go_enter Try.func33, Try.ntmps33
  refine wp_seq (region_m (F := fun γ => ⟨#[sv [.n 6 t.x.re.val, .n 6 t.x.im.val, .n 6 t.y.re.val, .n 6 t.y.im.val, .n 6 t.z.re.val, .n 6 t.z.im.val], .pointer (some ⟨γ 0, 0, none⟩), .pointer (some ⟨γ 1, 0, none⟩), undef, undef, undef, undef, undef, undef, undef, undef, undef, undef, undef, undef, undef, undef, undef, undef, undef, undef], []⟩) 2 (fun j_ => match j_ with | 0 => 51 | _ => 28) (fun j_ => match j_ with | 0 => 0 | _ => 1) (fun j_ => match j_ with | 0 => 0 | _ => 1) (fun j_ => match j_ with | 0 => segs [.n 6 t.x.re.val, .n 6 t.x.im.val, .n 6 t.y.re.val, .n 6 t.y.im.val, .n 6 t.z.re.val, .n 6 t.z.im.val] | _ => segs [.n 6 0, .n 6 0, .n 6 0, .n 6 0, .b false]) (fun j_ => match j_ with | 0 => segs [.n 6 t.x.re.val, .n 6 t.x.im.val, .n 6 t.y.re.val, .n 6 t.y.im.val, .n 6 t.z.re.val, .n 6 t.z.im.val] | _ => segs [.n 6 0, .n 6 0, .n 6 0, .n 6 0, .b false]) [1, 2] (.inr ⟨rfl, by kernel_rfl⟩) (by kernel_rfl) rfl rfl rfl ?_ ?_)
  · refine GSteps.cons (gm_box 0 rfl (fun _ => rfl) (fun _ _ => rfl) (fun γ w h => ex_boxs (l := [.n 6 t.x.re.val, .n 6 t.x.im.val, .n 6 t.y.re.val, .n 6 t.y.im.val, .n 6 t.z.re.val, .n 6 t.z.im.val]) rfl) rfl rfl rfl) ?_
    refine GSteps.cons (gm_box 1 rfl (fun _ => rfl) (fun _ _ => rfl) (fun γ w h => ex_allocs (l := [.n 6 0, .n 6 0, .n 6 0, .n 6 0, .b false]) zG2) rfl rfl rfl) ?_
    exact GSteps.nil
  intro γ1 w1 hb1 hB1 hn1
  refine th_r ?_
  have A2 : SB 51 w1 (γ1 0) [.n 6 t.x.re.val, .n 6 t.x.im.val, .n 6 t.y.re.val, .n 6 t.y.im.val, .n 6 t.z.re.val, .n 6 t.z.im.val] := (hB1 0 (by decide)).2
  have le2 := (hB1 0 (by decide)).1
  have A3 : SB 28 w1 (γ1 1) [.n 6 0, .n 6 0, .n 6 0, .n 6 0, .b false] := (hB1 1 (by decide)).2
  have le3 := (hB1 1 (by decide)).1
  have HB4 := below_then (Below.refl w.heap.size w) hb1.out
  refine wp_seq ?_
  refine wp_seq (region_m (F := fun _ => ⟨#[sv [.n 6 t.x.re.val, .n 6 t.x.im.val, .n 6 t.y.re.val, .n 6 t.y.im.val, .n 6 t.z.re.val, .n 6 t.z.im.val], .pointer (some ⟨(γ1 0), 0, none⟩), .pointer (some ⟨(γ1 1), 0, none⟩), undef, .pointer (some ⟨(γ1 0), 24, none⟩), nv 6 [t.z.re.val, t.z.im.val], nv 6 [0, 0], .bool true, undef, undef, undef, undef, undef, undef, undef, undef, undef, undef, undef, undef, undef], []⟩) 0 (fun _ => 0) (fun _ => 0) (fun _ => 0) (fun _ => []) (fun _ => []) [4, 5, 6, 7] (.inr ⟨rfl, by kernel_rfl⟩) (by kernel_rfl) rfl rfl rfl ?_ ?_)
  · refine GSteps.cons (gm_valg (fun γ => .pointer (some ⟨(γ1 0), 24, none⟩)) rfl (fun _ => rfl) (fun _ => rfl) (fun γ w h => ex_field faPG2_2 rfl) rfl) ?_
    refine GSteps.cons (gm_val (v := nv 6 [t.z.re.val, t.z.im.val]) rfl (fun _ => rfl) (fun _ => rfl) (fun γ w h => ex_loadsn (K := 6) 4 2 (m := [t.z.re.val, t.z.im.val]) flFp2 rfl rfl (A2.keep h.out) rfl rfl) rfl) ?_
    refine GSteps.cons (gm_val (v := nv 6 [0, 0]) rfl (fun _ => rfl) (fun _ => rfl) (fun γ w h => ex_build stFp2 (vs := []) rfl (bd0)) rfl) ?_
    refine GSteps.cons (gm_val (v := .bool true) rfl (fun _ => rfl) (fun _ => rfl) (fun γ w h => ex_eqzq t.z ((0 : Zq)) rfl qc0 rfl rfl true ⟨fun _ => hz, fun _ => rfl⟩) rfl) ?_
    exact GSteps.nil
  intro _ w5 hb5 _ _
  refine th_r ?_
  have A6 := A2.keep hb5.out
  have A7 := A3.keep hb5.out
  have HB8 := below_then HB4 hb5.out
  refine wp_cond_true rfl ?_
  refine wp_seq (region_ms (F := fun _ => ⟨#[sv [.n 6 t.x.re.val, .n 6 t.x.im.val, .n 6 t.y.re.val, .n 6 t.y.im.val, .n 6 t.z.re.val, .n 6 t.z.im.val], .pointer (some ⟨(γ1 0), 0, none⟩), .pointer (some ⟨(γ1 1), 0, none⟩), undef, .pointer (some ⟨(γ1 0), 24, none⟩), nv 6 [t.z.re.val, t.z.im.val], nv 6 [0, 0], .bool true, sv [.n 6 0, .n 6 0, .n 6 0, .n 6 0, .b true], undef, undef, undef, undef, undef, undef, undef, undef, undef, undef, undef, undef], []⟩) 1 ((γ1 1)) 0 (segs [.n 6 0, .n 6 0, .n 6 0, .n 6 0, .b true]) 0 (fun _ => 0) (fun _ => 0) (fun _ => 0) (fun _ => []) (fun _ => []) [8] (.inr ⟨rfl, by kernel_rfl⟩) (by kernel_rfl) rfl rfl rfl ?_ ?_)
  · refine GSteps.cons (late_step (gm_call (v := sv [.n 6 0, .n 6 0, .n 6 0, .n 6 0, .b true]) rfl (fun _ => rfl) (fun _ => rfl) (fun γ w => ex_call (vs := []) rfl Try.call10 rfl) (fun w h => twoZero_v _) rfl) (by kernel_rfl) rfl) ?_
    refine GSteps.cons (late_store rfl (fun _ => rfl) (fun γ w h => ex_stores 0 5 (l := [.n 6 0, .n 6 0, .n 6 0, .n 6 0, .b false]) (m := [.n 6 0, .n 6 0, .n 6 0, .n 6 0, .b true]) flG2.2 rfl rfl rfl rfl (A7.keep h.out) rfl rfl) rfl) ?_
    exact GSteps.nil
  intro _ w9 w9_ hb9 _ _ hs9
  refine th_r ?_
  have A10 := A6.keep hb9.out
  have A11 := A7.keep hb9.out
  have HB12 := below_then HB8 hb9.out
  have A13 := hs9.other (hn1 0 1 (by decide) (by decide) (by decide)) A10
  have A14 := hs9.here 0 5 (l' := [.n 6 0, .n 6 0, .n 6 0, .n 6 0, .b true]) A11 rfl rfl rfl
  have HB15 := hs9.below HB12 (Nat.le_trans (Nat.le_refl _) le3)
  exact wp_ret (th_ret (bodyPost_ret (ret1 Try.results33 (res_sv rfl A14 flG2 rfl)) rfl ⟨rfl, HB15⟩))

set_option maxRecDepth 20000 in
set_option maxHeartbeats 4000000 in
theorem twoback_aff (t : Tri Zq) (hz : t.z ≠ 0) (x y : Zq) (hx : x = t.x * FdQ.inv t.z) (hy : y = t.y * FdQ.inv t.z) (w : World) :
    Calls Try.prog 33 #[sv [.n 6 t.x.re.val, .n 6 t.x.im.val, .n 6 t.y.re.val, .n 6 t.y.im.val, .n 6 t.z.re.val, .n 6 t.z.im.val]] w (Is (sv [.n 6 x.re.val, .n 6 x.im.val, .n 6 y.re.val, .n 6 y.im.val, .b false]) w) := by
  obtain ⟨z1, ez1⟩ : ∃ q_ : Zq, q_ = FdQ.inv t.z := ⟨_, rfl⟩
  obtain ⟨z2, ez2⟩ : ∃ q_ : Zq, q_ = t.x * z1 := ⟨_, rfl⟩
  obtain ⟨z3, ez3⟩ : ∃ q_ : Zq, q_ = t.y * z1 := ⟨_, rfl⟩
  obtain rfl : z2 = x := by rw [hx, ez2, ez1]
  obtain rfl : z3 = y := by rw [hy, ez3, ez1]
  go_enter Try.func33, Try.ntmps33
  refine wp_seq (region_m (F := fun γ => ⟨#[sv [.n 6 t.x.re.val, .n 6 t.x.im.val, .n 6 t.y.re.val, .n 6 t.y.im.val, .n 6 t.z.re.val, .n 6 t.z.im.val], .pointer (some ⟨γ 0, 0, none⟩), .pointer (some ⟨γ 1, 0, none⟩), undef, undef, undef, undef, undef, undef, undef, undef, undef, undef, undef, undef, undef, undef, undef, undef, undef, undef], []⟩) 2 (fun j_ => match j_ with | 0 => 51 | _ => 28) (fun j_ => match j_ with | 0 => 0 | _ => 1) (fun j_ => match j_ with | 0 => 0 | _ => 1) (fun j_ => match j_ with | 0 => segs [.n 6 t.x.re.val, .n 6 t.x.im.val, .n 6 t.y.re.val, .n 6 t.y.im.val, .n 6 t.z.re.val, .n 6 t.z.im.val] | _ => segs [.n 6 0, .n 6 0, .n 6 0, .n 6 0, .b false]) (fun j_ => match j_ with | 0 => segs [.n 6 t.x.re.val, .n 6 t.x.im.val, .n 6 t.y.re.val, .n 6 t.y.im.val, .n 6 t.z.re.val, .n 6 t.z.im.val] | _ => segs [.n 6 0, .n 6 0, .n 6 0, .n 6 0, .b false]) [1, 2] (.inr ⟨rfl, by kernel_rfl⟩) (by kernel_rfl) rfl rfl rfl ?_ ?_)
  · refine GSteps.cons (gm_box 0 rfl (fun _ => rfl) (fun _ _ => rfl) (fun γ w h => ex_boxs (l := [.n 6 t.x.re.val, .n 6 t.x.im.val, .n 6 t.y.re.val, .n 6 t.y.im.val, .n 6 t.z.re.val, .n 6 t.z.im.val]) rfl) rfl rfl rfl) ?_
    refine GSteps.cons (gm_box 1 rfl (fun _ => rfl) (fun _ _ => rfl) (fun γ w h => ex_allocs (l := [.n 6 0, .n 6 0, .n 6 0, .n 6 0, .b false]) zG2) rfl rfl rfl) ?_
    exact GSteps.nil
  intro γ1 w1 hb1 hB1 hn1
  refine th_r ?_
  have A2 : SB 51 w1 (γ1 0) [.n 6 t.x.re.val, .n 6 t.x.im.val, .n 6 t.y.re.val, .n 6 t.y.im.val, .n 6 t.z.re.val, .n 6 t.z.im.val] := (hB1 0 (by decide)).2
  have le2 := (hB1 0 (by decide)).1
  have A3 : SB 28 w1 (γ1 1) [.n 6 0, .n 6 0, .n 6 0, .n 6 0, .b false] := (hB1 1 (by decide)).2
  have le3 := (hB1 1 (by decide)).1
  have HB4 := below_then (Below.refl w.heap.size w) hb1.out
  refine wp_seq ?_
  refine wp_seq (region_m (F := fun _ => ⟨#[sv [.n 6 t.x.re.val, .n 6 t.x.im.val, .n 6 t.y.re.val, .n 6 t.y.im.val, .n 6 t.z.re.val, .n 6 t.z.im.val], .pointer (some ⟨(γ1 0), 0, none⟩), .pointer (some ⟨(γ1 1), 0, none⟩), undef, .pointer (some ⟨(γ1 0), 24, none⟩), nv 6 [t.z.re.val, t.z.im.val], nv 6 [0, 0], .bool false, undef, undef, undef, undef, undef, undef, undef, undef, undef, undef, undef, undef, undef], []⟩) 0 (fun _ => 0) (fun _ => 0) (fun _ => 0) (fun _ => []) (fun _ => []) [4, 5, 6, 7] (.inr ⟨rfl, by kernel_rfl⟩) (by kernel_rfl) rfl rfl rfl ?_ ?_)
  · refine GSteps.cons (gm_valg (fun γ => .pointer (some ⟨(γ1 0), 24, none⟩)) rfl (fun _ => rfl) (fun _ => rfl) (fun γ w h => ex_field faPG2_2 rfl) rfl) ?_
    refine GSteps.cons (gm_val (v := nv 6 [t.z.re.val, t.z.im.val]) rfl (fun _ => rfl) (fun _ => rfl) (fun γ w h => ex_loadsn (K := 6) 4 2 (m := [t.z.re.val, t.z.im.val]) flFp2 rfl rfl (A2.keep h.out) rfl rfl) rfl) ?_
    refine GSteps.cons (gm_val (v := nv 6 [0, 0]) rfl (fun _ => rfl) (fun _ => rfl) (fun γ w h => ex_build stFp2 (vs := []) rfl (bd0)) rfl) ?_
    refine GSteps.cons (gm_val (v := .bool false) rfl (fun _ => rfl) (fun _ => rfl) (fun γ w h => ex_eqzq t.z ((0 : Zq)) rfl qc0 rfl rfl false ⟨fun e => Bool.noConfusion e, fun e => absurd e hz⟩) rfl) ?_
    exact GSteps.nil
  intro _ w5 hb5 _ _
  refine th_r ?_
  have A6 := A2.keep hb5.out
  have A7 := A3.keep hb5.out
  have HB8 := below_then HB4 hb5.out
  refine wp_cond_false rfl ?_
  refine wp_skip ?_
  refine th_r ?_
  refine wp_seq (region_m (F := fun γ => ⟨#[sv [.n 6 t.x.re.val, .n 6 t.x.im.val, .n 6 t.y.re.val, .n 6 t.y.im.val, .n 6 t.z.re.val, .n 6 t.z.im.val], .pointer (some ⟨(γ1 0), 0, none⟩), .pointer (some ⟨(γ1 1), 0, none⟩), .pointer (some ⟨γ 0, 0, none⟩), .pointer (some ⟨(γ1 0), 24, none⟩), nv 6 [t.z.re.val, t.z.im.val], nv 6 [0, 0], .bool false, undef, .pointer (some ⟨(γ1 0), 24, none⟩), nv 6 [t.z.re.val, t.z.im.val], nv 6 [z1.re.val, z1.im.val], undef, undef, undef, undef, undef, undef, undef, undef, undef], []⟩) 1 (fun _ => 26) (fun _ => 3) (fun _ => 4) (fun _ => segs [.n 6 0, .n 6 0]) (fun _ => segs [.n 6 z1.re.val, .n 6 z1.im.val]) [9, 10, 11, 3] (.inr ⟨rfl, by kernel_rfl⟩) (by kernel_rfl) rfl rfl rfl ?_ ?_)
  · refine GSteps.cons (gm_valg (fun γ => .pointer (some ⟨(γ1 0), 24, none⟩)) rfl (fun _ => rfl) (fun _ => rfl) (fun γ w h => ex_field faPG2_2 rfl) rfl) ?_
    refine GSteps.cons (gm_val (v := nv 6 [t.z.re.val, t.z.im.val]) rfl (fun _ => rfl) (fun _ => rfl) (fun γ w h => ex_loadsn (K := 6) 4 2 (m := [t.z.re.val, t.z.im.val]) flFp2 rfl rfl (A6.keep h.out) rfl rfl) rfl) ?_
    refine GSteps.cons (gm_call (v := nv 6 [z1.re.val, z1.im.val]) rfl (fun _ => rfl) (fun _ => rfl) (fun γ w => ex_call (vs := [nv 6 [t.z.re.val, t.z.im.val]]) rfl Try.call54 rfl) (fun w h => duoInv_z t.z z1 rfl ez1 _) rfl) ?_
    refine GSteps.cons (gm_new 0 rfl (fun _ => rfl) (fun _ _ => rfl) (fun γ w => ex_allocsn (K := 6) (l := [0, 0]) zFp2) rfl (by kernel_rfl)) ?_
    refine GSteps.cons (gm_store 0 rfl rfl (fun _ => rfl) (len_segs (l := [.n 6 z1.re.val, .n 6 z1.im.val]) (l' := [.n 6 0, .n 6 0]) rfl) (fun γ w h => ex_stores 0 2 (l := [.n 6 0, .n 6 0]) (m := [.n 6 z1.re.val, .n 6 z1.im.val]) flFp2.2 rfl rfl rfl (nv_cells 6 [z1.re.val, z1.im.val]) h rfl rfl) rfl rfl (by kernel_rfl)) ?_
    exact GSteps.nil
  intro γ9 w9 hb9 hB9 _
  refine th_r ?_
  have A10 := A6.keep hb9.out
  have A11 := A7.keep hb9.out
  have A12 : SB 26 w9 (γ9 0) [.n 6 z1.re.val, .n 6 z1.im.val] := (hB9 0 (by decide)).2
  have le12 := (hB9 0 (by decide)).1
  have HB13 := below_then HB8 hb9.out
  refine wp_seq (region_ms (F := fun _ => ⟨#[sv [.n 6 t.x.re.val, .n 6 t.x.im.val, .n 6 t.y.re.val, .n 6 t.y.im.val, .n 6 t.z.re.val, .n 6 t.z.im.val], .pointer (some ⟨(γ1 0), 0, none⟩), .pointer (some ⟨(γ1 1), 0, none⟩), .pointer (some ⟨(γ9 0), 0, none⟩), .pointer (some ⟨(γ1 0), 24, none⟩), nv 6 [t.z.re.val, t.z.im.val], nv 6 [0, 0], .bool false, undef, .pointer (some ⟨(γ1 0), 24, none⟩), nv 6 [t.z.re.val, t.z.im.val], nv 6 [z1.re.val, z1.im.val], .pointer (some ⟨(γ1 0), 0, none⟩), nv 6 [t.x.re.val, t.x.im.val], nv 6 [z1.re.val, z1.im.val], nv 6 [z2.re.val, z2.im.val], .pointer (some ⟨(γ1 0), 12, none⟩), nv 6 [t.y.re.val, t.y.im.val], nv 6 [z1.re.val, z1.im.val], nv 6 [z3.re.val, z3.im.val], sv [.n 6 z2.re.val, .n 6 z2.im.val, .n 6 z3.re.val, .n 6 z3.im.val, .b false]], []⟩) 9 ((γ1 1)) 0 (segs [.n 6 z2.re.val, .n 6 z2.im.val, .n 6 z3.re.val, .n 6 z3.im.val, .b false]) 0 (fun _ => 0) (fun _ => 0) (fun _ => 0) (fun _ => []) (fun _ => []) [12, 13, 14, 15, 16, 17, 18, 19, 20] (.inl ⟨rfl, by kernel_rfl⟩) (by kernel_rfl) rfl rfl rfl ?_ ?_)
  · refine GSteps.cons (late_step (gm_valg (fun γ => .pointer (some ⟨(γ1 0), 0, none⟩)) rfl (fun _ => rfl) (fun _ => rfl) (fun γ w h => ex_field faPG2_0 rfl) rfl) (by kernel_rfl) rfl) ?_
    refine GSteps.cons (late_step (gm_val (v := nv 6 [t.x.re.val, t.x.im.val]) rfl (fun _ => rfl) (fun _ => rfl) (fun γ w h => ex_loadsn (K := 6) 0 2 (m := [t.x.re.val, t.x.im.val]) flFp2 rfl rfl (A10.keep h.out) rfl rfl) rfl) (by kernel_rfl) rfl) ?_
    refine GSteps.cons (late_step (gm_val (v := nv 6 [z1.re.val, z1.im.val]) rfl (fun _ => rfl) (fun _ => rfl) (fun γ w h => ex_loadsn (K := 6) 0 2 (m := [z1.re.val, z1.im.val]) flFp2 rfl rfl (A12.keep h.out) rfl rfl) rfl) (by kernel_rfl) rfl) ?_
    refine GSteps.cons (late_step (gm_call (v := nv 6 [z2.re.val, z2.im.val]) rfl (fun _ => rfl) (fun _ => rfl) (fun γ w => ex_call (vs := [nv 6 [t.x.re.val, t.x.im.val], nv 6 [z1.re.val, z1.im.val]]) rfl Try.call28 rfl) (fun w h => duoMul_z t.x z1 z2 rfl rfl ez2 _) rfl) (by kernel_rfl) rfl) ?_
    refine GSteps.cons (late_step (gm_valg (fun γ => .pointer (some ⟨(γ1 0), 12, none⟩)) rfl (fun _ => rfl) (fun _ => rfl) (fun γ w h => ex_field faPG2_1 rfl) rfl) (by kernel_rfl) rfl) ?_
    refine GSteps.cons (late_step (gm_val (v := nv 6 [t.y.re.val, t.y.im.val]) rfl (fun _ => rfl) (fun _ => rfl) (fun γ w h => ex_loadsn (K := 6) 2 2 (m := [t.y.re.val, t.y.im.val]) flFp2 rfl rfl (A10.keep h.out) rfl rfl) rfl) (by kernel_rfl) rfl) ?_
    refine GSteps.cons (late_step (gm_val (v := nv 6 [z1.re.val, z1.im.val]) rfl (fun _ => rfl) (fun _ => rfl) (fun γ w h => ex_loadsn (K := 6) 0 2 (m := [z1.re.val, z1.im.val]) flFp2 rfl rfl (A12.keep h.out) rfl rfl) rfl) (by kernel_rfl) rfl) ?_
    refine GSteps.cons (late_step (gm_call (v := nv 6 [z3.re.val, z3.im.val]) rfl (fun _ => rfl) (fun _ => rfl) (fun γ w => ex_call (vs := [nv 6 [t.y.re.val, t.y.im.val], nv 6 [z1.re.val, z1.im.val]]) rfl Try.call28 rfl) (fun w h => duoMul_z t.y z1 z3 rfl rfl ez3 _) rfl) (by kernel_rfl) rfl) ?_
    refine GSteps.cons (late_step (gm_val (v := sv [.n 6 z2.re.val, .n 6 z2.im.val, .n 6 z3.re.val, .n 6 z3.im.val, .b false]) rfl (fun _ => rfl) (fun _ => rfl) (fun γ w h => ex_builds stG2 (l := [.n 6 z2.re.val, .n 6 z2.im.val, .n 6 z3.re.val, .n 6 z3.im.val, .b false]) (vs := [(0, nv 6 [z2.re.val, z2.im.val]), (1, nv 6 [z3.re.val, z3.im.val])]) rfl ((fills_cons 0 2 (m := [.n 6 z2.re.val, .n 6 z2.im.val]) (z' := [.n 6 z2.re.val, .n 6 z2.im.val, .n 6 0, .n 6 0, .b false]) rfl (nv_cells 6 [z2.re.val, z2.im.val]) rfl rfl rfl rfl).trans ((fills_cons 2 2 (m := [.n 6 z3.re.val, .n 6 z3.im.val]) (z' := [.n 6 z2.re.val, .n 6 z2.im.val, .n 6 z3.re.val, .n 6 z3.im.val, .b false]) rfl (nv_cells 6 [z3.re.val, z3.im.val]) rfl rfl rfl rfl).trans rfl))) rfl) (by kernel_rfl) rfl) ?_
    refine GSteps.cons (late_store rfl (fun _ => rfl) (fun γ w h => ex_stores 0 5 (l := [.n 6 0, .n 6 0, .n 6 0, .n 6 0, .b false]) (m := [.n 6 z2.re.val, .n 6 z2.im.val, .n 6 z3.re.val, .n 6 z3.im.val, .b false]) flG2.2 rfl rfl rfl rfl (A11.keep h.out) rfl rfl) rfl) ?_
    exact GSteps.nil
  intro _ w14 w14_ hb14 _ _ hs14
  refine th_r ?_
  have A15 := A10.keep hb14.out
  have A16 := A11.keep hb14.out
  have A17 := A12.keep hb14.out
  have HB18 := below_then HB13 hb14.out
  have A19 := hs14.other (hn1 0 1 (by decide) (by decide) (by decide)) A15
  have A20 := hs14.here 0 5 (l' := [.n 6 z2.re.val, .n 6 z2.im.val, .n 6 z3.re.val, .n 6 z3.im.val, .b false]) A16 rfl rfl rfl
  have A21 := hs14.other (Ne.symm (Nat.ne_of_lt (Nat.lt_of_lt_of_le A7.lt le12))) A17
  have HB22 := hs14.below HB18 (Nat.le_trans (Nat.le_refl _) le3)
  exact wp_ret (bodyPost_ret (ret1 Try.results33 (res_sv rfl A20 flG2 rfl)) rfl ⟨rfl, HB22⟩)

theorem twoback_q {t : Tri Zq} {P : Pt Zq} (h : t.Is P) (w : World) :
    Calls Try.prog 33 #[sv [.n 6 t.x.re.val, .n 6 t.x.im.val, .n 6 t.y.re.val, .n 6 t.y.im.val, .n 6 t.z.re.val, .n 6 t.z.im.val]] w (Is (sv [.n 6 (bx0 P), .n 6 (bx1 P), .n 6 (by0 P), .n 6 (by1 P), .b (bi P)]) w) := by
  rcases back_ok FdQ h with ⟨h1, rfl⟩ | ⟨h1, hP⟩
  · exact twoback_inf t h1 w
  · obtain ⟨x, hx⟩ : ∃ x, x = t.x * FdQ.inv t.z := ⟨_, rfl⟩
    obtain ⟨y, hy⟩ : ∃ y, y = t.y * FdQ.inv t.z := ⟨_, rfl⟩
    rw [← hx, ← hy] at hP
    subst hP
    exact twoback_aff t h1 x y hx hy w

set_option maxRecDepth 20000 in
set_option maxHeartbeats 4000000 in
theorem twoRight_inf (w : World) :
    Calls Try.prog 7 #[sv [.n 6 0, .n 6 0, .n 6 0, .n 6 0, .b true]] w (Is (.bool true) w) := by
  go_enter Try.func7, Try.ntmps7
  refine wp_seq (region_m (F := fun γ => ⟨#[sv [.n 6 0, .n 6 0, .n 6 0, .n 6 0, .b true], .pointer (some ⟨γ 0, 0, none⟩), .bool false, undef, undef, undef, undef, undef, undef, undef, undef, undef, undef, undef, undef, undef, undef, undef, undef, undef, undef, undef, undef], []⟩) 1 (fun _ => 28) (fun _ => 0) (fun _ => 0) (fun _ => segs [.n 6 0, .n 6 0, .n 6 0, .n 6 0, .b true]) (fun _ => segs [.n 6 0, .n 6 0, .n 6 0, .n 6 0, .b true]) [1, 2] (.inr ⟨rfl, by kernel_rfl⟩) (by kernel_rfl) rfl rfl rfl ?_ ?_)
  · refine GSteps.cons (gm_box 0 rfl (fun _ => rfl) (fun _ _ => rfl) (fun γ w h => ex_boxs (l := [.n 6 0, .n 6 0, .n 6 0, .n 6 0, .b true]) rfl) rfl rfl rfl) ?_
    refine GSteps.cons (gm_val (v := .bool false) rfl (fun _ => rfl) (fun _ => rfl) (fun γ w h => ex_assign _) rfl) ?_
    exact GSteps.nil
  intro γ1 w1 hb1 hB1 _
  refine th_r ?_
  have A2 : SB 28 w1 (γ1 0) [.n 6 0, .n 6 0, .n 6 0, .n 6 0, .b true] := (hB1 0 (by decide)).2
  have le2 := (hB1 0 (by decide)).1
  have HB3 := below_then (Below.refl w.heap.size w) hb1.out
  refine wp_seq ?_
  refine wp_seq (region_m (F := fun _ => ⟨#[sv [.n 6 0, .n 6 0, .n 6 0, .n 6 0, .b true], .pointer (some ⟨(γ1 0), 0, none⟩), .bool false, .pointer (some ⟨(γ1 0), 24, none⟩), .bool true, undef, undef, undef, undef, undef, undef, undef, undef, undef, undef, undef, undef, undef, undef, undef, undef, undef, undef], []⟩) 0 (fun _ => 0) (fun _ => 0) (fun _ => 0) (fun _ => []) (fun _ => []) [3, 4] (.inr ⟨rfl, by kernel_rfl⟩) (by kernel_rfl) rfl rfl rfl ?_ ?_)
  · refine GSteps.cons (gm_valg (fun γ => .pointer (some ⟨(γ1 0), 24, none⟩)) rfl (fun _ => rfl) (fun _ => rfl) (fun γ w h => ex_field faG2_2 rfl) rfl) ?_
    refine GSteps.cons (gm_val (v := .bool true) rfl (fun _ => rfl) (fun _ => rfl) (fun γ w h => ex_load1 4 (s := .b true) (v := .bool true) sgBool rfl (A2.keep h.out) rfl rfl rfl) rfl) ?_
    exact GSteps.nil
  intro _ w4 hb4 _ _
  refine th_r ?_
  have A5 := A2.keep hb4.out
  have HB6 := below_then HB3 hb4.out
  refine wp_cond_true rfl ?_
  refine wp_seq (region_m (F := fun _ => ⟨#[sv [.n 6 0, .n 6 0, .n 6 0, .n 6 0, .b true], .pointer (some ⟨(γ1 0), 0, none⟩), .bool true, .pointer (some ⟨(γ1 0), 24, none⟩), .bool true, sv [.n 6 0, .n 6 0, .n 6 0, .n 6 0, .b true], sv [.n 6 0, .n 6 0, .n 6 0, .n 6 0, .b true], .bool true, undef, undef, undef, undef, undef, undef, undef, undef, undef, undef, undef, undef, undef, undef, undef], []⟩) 0 (fun _ => 0) (fun _ => 0) (fun _ => 0) (fun _ => []) (fun _ => []) [5, 6, 7, 2] (.inl ⟨rfl, by kernel_rfl⟩) (by kernel_rfl) rfl rfl rfl ?_ ?_)
  · refine GSteps.cons (gm_val (v := sv [.n 6 0, .n 6 0, .n 6 0, .n 6 0, .b true]) rfl (fun _ => rfl) (fun _ => rfl) (fun γ w h => ex_loads 0 5 (m := [.n 6 0, .n 6 0, .n 6 0, .n 6 0, .b true]) flG2 rfl rfl (A5.keep h.out) rfl rfl) rfl) ?_
    refine GSteps.cons (gm_call (v := sv [.n 6 0, .n 6 0, .n 6 0, .n 6 0, .b true]) rfl (fun _ => rfl) (fun _ => rfl) (fun γ w => ex_call (vs := []) rfl Try.call10 rfl) (fun w h => twoZero_v _) rfl) ?_
    refine GSteps.cons (gm_val (v := .bool true) rfl (fun _ => rfl) (fun _ => rfl) (fun γ w h => ex_eqs gdG2 eqG2 rfl rfl rfl (shG2_of zero_B zero_B zero_B zero_B) (shG2_of zero_B zero_B zero_B zero_B) true (by simp)) rfl) ?_
    refine GSteps.cons (gm_val (v := .bool true) rfl (fun _ => rfl) (fun _ => rfl) (fun γ w h => ex_assign _) rfl) ?_
    exact GSteps.nil
  intro _ w7 hb7 _ _
  refine th_r ?_
  have A8 := A5.keep hb7.out
  have HB9 := below_then HB6 hb7.out
  exact wp_ret (th_ret (bodyPost_ret (ret1 Try.results7 (res_tmp rfl)) rfl ⟨rfl, HB9⟩))

set_option maxRecDepth 20000 in
set_option maxHeartbeats 4000000 in
theorem r9Right_inf (w : World) :
    Calls Try.prog 5 #[sv [.n 6 0, .n 6 0, .n 6 0, .n 6 0, .b true]] w (Is (.bool true) w) := by
  go_enter Try.func5, Try.ntmps5
  refine wp_seq (region_m (F := fun γ => ⟨List.toArray ((sv [.n 6 0, .n 6 0, .n 6 0, .n 6 0, .b true]) :: (.pointer (some ⟨γ 0, 0, none⟩)) :: (.bool false) :: undef :: undef :: undef :: undef :: undef :: undef :: undef :: undef :: undef :: undef :: undef :: undef :: undef :: undef :: undef :: undef :: undef :: undef :: undef :: undef :: undef :: undef :: undef :: undef :: undef :: undef :: undef :: undef :: undef :: undef :: undef :: undef :: undef :: undef :: undef :: undef :: undef :: undef :: undef :: []), []⟩) 1 (fun _ => 28) (fun _ => 0) (fun _ => 0) (fun _ => segs [.n 6 0, .n 6 0, .n 6 0, .n 6 0, .b true]) (fun _ => segs [.n 6 0, .n 6 0, .n 6 0, .n 6 0, .b true]) [1, 2] (.inr ⟨rfl, by kernel_rfl⟩) (by kernel_rfl) rfl rfl rfl ?_ ?_)
  · refine GSteps.cons (gm_box 0 rfl (fun _ => rfl) (fun _ _ => rfl) (fun γ w h => ex_boxs (l := [.n 6 0, .n 6 0, .n 6 0, .n 6 0, .b true]) rfl) rfl rfl rfl) ?_
    refine GSteps.cons (gm_val (v := .bool false) rfl (fun _ => rfl) (fun _ => rfl) (fun γ w h => ex_assign _) rfl) ?_
    exact GSteps.nil
  intro γ1 w1 hb1 hB1 _
  refine th_r ?_
  have A2 : SB 28 w1 (γ1 0) [.n 6 0, .n 6 0, .n 6 0, .n 6 0, .b true] := (hB1 0 (by decide)).2
  have le2 := (hB1 0 (by decide)).1
  have HB3 := below_then (Below.refl w.heap.size w) hb1.out
  refine wp_seq ?_
  refine wp_seq (region_m (F := fun _ => ⟨List.toArray ((sv [.n 6 0, .n 6 0, .n 6 0, .n 6 0, .b true]) :: (.pointer (some ⟨(γ1 0), 0, none⟩)) :: (.bool false) :: undef :: (.pointer (some ⟨(γ1 0), 24, none⟩)) :: (.bool true) :: undef :: undef :: undef :: undef :: undef :: undef :: undef :: undef :: undef :: undef :: undef :: undef :: undef :: undef :: undef :: undef :: undef :: undef :: undef :: undef :: undef :: undef :: undef :: undef :: undef :: undef :: undef :: undef :: undef :: undef :: undef :: undef :: undef :: undef :: undef :: undef :: []), []⟩) 0 (fun _ => 0) (fun _ => 0) (fun _ => 0) (fun _ => []) (fun _ => []) [4, 5] (.inr ⟨rfl, by kernel_rfl⟩) (by kernel_rfl) rfl rfl rfl ?_ ?_)
  · refine GSteps.cons (gm_valg (fun γ => .pointer (some ⟨(γ1 0), 24, none⟩)) rfl (fun _ => rfl) (fun _ => rfl) (fun γ w h => ex_field faG2_2 rfl) rfl) ?_
    refine GSteps.cons (gm_val (v := .bool true) rfl (fun _ => rfl) (fun _ => rfl) (fun γ w h => ex_load1 4 (s := .b true) (v := .bool true) sgBool rfl (A2.keep h.out) rfl rfl rfl) rfl) ?_
    exact GSteps.nil
  intro _ w4 hb4 _ _
  refine th_r ?_
  have A5 := A2.keep hb4.out
  have HB6 := below_then HB3 hb4.out
  refine wp_cond_true rfl ?_
  refine wp_seq (region_m (F := fun _ => ⟨List.toArray ((sv [.n 6 0, .n 6 0, .n 6 0, .n 6 0, .b true]) :: (.pointer (some ⟨(γ1 0), 0, none⟩)) :: (.bool true) :: undef :: (.pointer (some ⟨(γ1 0), 24, none⟩)) :: (.bool true) :: (sv [.n 6 0, .n 6 0, .n 6 0, .n 6 0, .b true]) :: (sv [.n 6 0, .n 6 0, .n 6 0, .n 6 0, .b true]) :: (.bool true) :: undef :: undef :: undef :: undef :: undef :: undef :: undef :: undef :: undef :: undef :: undef :: undef :: undef :: undef :: undef :: undef :: undef :: undef :: undef :: undef :: undef :: undef :: undef :: undef :: undef :: undef :: undef :: undef :: undef :: undef :: undef :: undef :: undef :: []), []⟩) 0 (fun _ => 0) (fun _ => 0) (fun _ => 0) (fun _ => []) (fun _ => []) [6, 7, 8, 2] (.inr ⟨rfl, by kernel_rfl⟩) (by kernel_rfl) rfl rfl rfl ?_ ?_)
  · refine GSteps.cons (gm_val (v := sv [.n 6 0, .n 6 0, .n 6 0, .n 6 0, .b true]) rfl (fun _ => rfl) (fun _ => rfl) (fun γ w h => ex_loads 0 5 (m := [.n 6 0, .n 6 0, .n 6 0, .n 6 0, .b true]) flG2 rfl rfl (A5.keep h.out) rfl rfl) rfl) ?_
    refine GSteps.cons (gm_val (v := sv [.n 6 0, .n 6 0, .n 6 0, .n 6 0, .b true]) rfl (fun _ => rfl) (fun _ => rfl) (fun γ w h => ex_builds stG2 (l := [.n 6 0, .n 6 0, .n 6 0, .n 6 0, .b true]) (vs := [(2, .bool true)]) rfl ((fills_cons 4 1 (m := [.b true]) (z' := [.n 6 0, .n 6 0, .n 6 0, .n 6 0, .b true]) rfl (bool_cells true) rfl rfl rfl rfl).trans rfl)) rfl) ?_
    refine GSteps.cons (gm_val (v := .bool true) rfl (fun _ => rfl) (fun _ => rfl) (fun γ w h => ex_eqs gdG2 eqG2 rfl rfl rfl (shG2_of zero_B zero_B zero_B zero_B) (shG2_of zero_B zero_B zero_B zero_B) true (by simp)) rfl) ?_
    refine GSteps.cons (gm_val (v := .bool true) rfl (fun _ => rfl) (fun _ => rfl) (fun γ w h => ex_assign _) rfl) ?_
    exact GSteps.nil
  intro _ w7 hb7 _ _
  refine th_r ?_
  have A8 := A5.keep hb7.out
  have HB9 := below_then HB6 hb7.out
  exact wp_ret (th_ret (bodyPost_ret (ret1 Try.results5 (res_tmp rfl)) rfl ⟨rfl, HB9⟩))

set_option maxRecDepth 20000 in
set_option maxHeartbeats 4000000 in
theorem r9Right_rawinf (x0 : Nat) (x1 : Nat) (y0 : Nat) (y1 : Nat) (hx0 : x0 < fpB) (hx1 : x1 < fpB) (hy0 : y0 < fpB) (hy1 : y1 < fpB) (h0 : ¬ (x0 = 0 ∧ x1 = 0 ∧ y0 = 0 ∧ y1 = 0)) (w : World) :
    Calls Try.prog 5 #[sv [.n 6 x0, .n 6 x1, .n 6 y0, .n 6 y1, .b true]] w (Is (.bool false) w) := by
  go_enter Try.func5, Try.ntmps5
  refine wp_seq (region_m (F := fun γ => ⟨List.toArray ((sv [.n 6 x0, .n 6 x1, .n 6 y0, .n 6 y1, .b true]) :: (.pointer (some ⟨γ 0, 0, none⟩)) :: (.bool false) :: undef :: undef :: undef :: undef :: undef :: undef :: undef :: undef :: undef :: undef :: undef :: undef :: undef :: undef :: undef :: undef :: undef :: undef :: undef :: undef :: undef :: undef :: undef :: undef :: undef :: undef :: undef :: undef :: undef :: undef :: undef :: undef :: undef :: undef :: undef :: undef :: undef :: undef :: undef :: []), []⟩) 1 (fun _ => 28) (fun _ => 0) (fun _ => 0) (fun _ => segs [.n 6 x0, .n 6 x1, .n 6 y0, .n 6 y1, .b true]) (fun _ => segs [.n 6 x0, .n 6 x1, .n 6 y0, .n 6 y1, .b true]) [1, 2] (.inr ⟨rfl, by kernel_rfl⟩) (by kernel_rfl) rfl rfl rfl ?_ ?_)
  · refine GSteps.cons (gm_box 0 rfl (fun _ => rfl) (fun _ _ => rfl) (fun γ w h => ex_boxs (l := [.n 6 x0, .n 6 x1, .n 6 y0, .n 6 y1, .b true]) rfl) rfl rfl rfl) ?_
    refine GSteps.cons (gm_val (v := .bool false) rfl (fun _ => rfl) (fun _ => rfl) (fun γ w h => ex_assign _) rfl) ?_
    exact GSteps.nil
  intro γ1 w1 hb1 hB1 _
  refine th_r ?_
  have A2 : SB 28 w1 (γ1 0) [.n 6 x0, .n 6 x1, .n 6 y0, .n 6 y1, .b true] := (hB1 0 (by decide)).2
  have le2 := (hB1 0 (by decide)).1
  have HB3 := below_then (Below.refl w.heap.size w) hb1.out
  refine wp_seq ?_
  refine wp_seq (region_m (F := fun _ => ⟨List.toArray ((sv [.n 6 x0, .n 6 x1, .n 6 y0, .n 6 y1, .b true]) :: (.pointer (some ⟨(γ1 0), 0, none⟩)) :: (.bool false) :: undef :: (.pointer (some ⟨(γ1 0), 24, none⟩)) :: (.bool true) :: undef :: undef :: undef :: undef :: undef :: undef :: undef :: undef :: undef :: undef :: undef :: undef :: undef :: undef :: undef :: undef :: undef :: undef :: undef :: undef :: undef :: undef :: undef :: undef :: undef :: undef :: undef :: undef :: undef :: undef :: undef :: undef :: undef :: undef :: undef :: undef :: []), []⟩) 0 (fun _ => 0) (fun _ => 0) (fun _ => 0) (fun _ => []) (fun _ => []) [4, 5] (.inr ⟨rfl, by kernel_rfl⟩) (by kernel_rfl) rfl rfl rfl ?_ ?_)
  · refine GSteps.cons (gm_valg (fun γ => .pointer (some ⟨(γ1 0), 24, none⟩)) rfl (fun _ => rfl) (fun _ => rfl) (fun γ w h => ex_field faG2_2 rfl) rfl) ?_
    refine GSteps.cons (gm_val (v := .bool true) rfl (fun _ => rfl) (fun _ => rfl) (fun γ w h => ex_load1 4 (s := .b true) (v := .bool true) sgBool rfl (A2.keep h.out) rfl rfl rfl) rfl) ?_
    exact GSteps.nil
  intro _ w4 hb4 _ _
  refine th_r ?_
  have A5 := A2.keep hb4.out
  have HB6 := below_then HB3 hb4.out
  refine wp_cond_true rfl ?_
  refine wp_seq (region_m (F := fun _ => ⟨List.toArray ((sv [.n 6 x0, .n 6 x1, .n 6 y0, .n 6 y1, .b true]) :: (.pointer (some ⟨(γ1 0), 0, none⟩)) :: (.bool false) :: undef :: (.pointer (some ⟨(γ1 0), 24, none⟩)) :: (.bool true) :: (sv [.n 6 x0, .n 6 x1, .n 6 y0, .n 6 y1, .b true]) :: (sv [.n 6 0, .n 6 0, .n 6 0, .n 6 0, .b true]) :: (.bool false) :: undef :: undef :: undef :: undef :: undef :: undef :: undef :: undef :: undef :: undef :: undef :: undef :: undef :: undef :: undef :: undef :: undef :: undef :: undef :: undef :: undef :: undef :: undef :: undef :: undef :: undef :: undef :: undef :: undef :: undef :: undef :: undef :: undef :: []), []⟩) 0 (fun _ => 0) (fun _ => 0) (fun _ => 0) (fun _ => []) (fun _ => []) [6, 7, 8, 2] (.inr ⟨rfl, by kernel_rfl⟩) (by kernel_rfl) rfl rfl rfl ?_ ?_)
  · refine GSteps.cons (gm_val (v := sv [.n 6 x0, .n 6 x1, .n 6 y0, .n 6 y1, .b true]) rfl (fun _ => rfl) (fun _ => rfl) (fun γ w h => ex_loads 0 5 (m := [.n 6 x0, .n 6 x1, .n 6 y0, .n 6 y1, .b true]) flG2 rfl rfl (A5.keep h.out) rfl rfl) rfl) ?_
    refine GSteps.cons (gm_val (v := sv [.n 6 0, .n 6 0, .n 6 0, .n 6 0, .b true]) rfl (fun _ => rfl) (fun _ => rfl) (fun γ w h => ex_builds stG2 (l := [.n 6 0, .n 6 0, .n 6 0, .n 6 0, .b true]) (vs := [(2, .bool true)]) rfl ((fills_cons 4 1 (m := [.b true]) (z' := [.n 6 0, .n 6 0, .n 6 0, .n 6 0, .b true]) rfl (bool_cells true) rfl rfl rfl rfl).trans rfl)) rfl) ?_
    refine GSteps.cons (gm_val (v := .bool false) rfl (fun _ => rfl) (fun _ => rfl) (fun γ w h => ex_eqs gdG2 eqG2 rfl rfl rfl (shG2_of hx0 hx1 hy0 hy1) (shG2_of zero_B zero_B zero_B zero_B) false ⟨fun e => Bool.noConfusion e, fun e => absurd (by simpa using e) h0⟩) rfl) ?_
    refine GSteps.cons (gm_val (v := .bool false) rfl (fun _ => rfl) (fun _ => rfl) (fun γ w h => ex_assign _) rfl) ?_
    exact GSteps.nil
  intro _ w7 hb7 _ _
  refine th_r ?_
  have A8 := A5.keep hb7.out
  have HB9 := below_then HB6 hb7.out
  exact wp_ret (th_ret (bodyPost_ret (ret1 Try.results5 (res_tmp rfl)) rfl ⟨rfl, HB9⟩))

set_option maxRecDepth 20000 in
set_option maxHeartbeats 4000000 in
theorem twobelow_yes (x : Zq) (w : World) :
    Calls Try.prog 17 #[nv 6 [x.re.val, x.im.val]] w (Is (.bool true) w) := by
  go_enter Try.func17, Try.ntmps17
  refine wp_seq (region_m (F := fun γ => ⟨#[nv 6 [x.re.val, x.im.val], .pointer (some ⟨γ 0, 0, none⟩), .bool false, undef, undef, undef, undef], []⟩) 1 (fun _ => 26) (fun _ => 0) (fun _ => 0) (fun _ => segs [.n 6 x.re.val, .n 6 x.im.val]) (fun _ => segs [.n 6 x.re.val, .n 6 x.im.val]) [1, 2] (.inr ⟨rfl, by kernel_rfl⟩) (by kernel_rfl) rfl rfl rfl ?_ ?_)
  · refine GSteps.cons (gm_box 0 rfl (fun _ => rfl) (fun _ _ => rfl) (fun γ w h => ex_boxsn (K := 6) (l := [x.re.val, x.im.val]) rfl) rfl rfl rfl) ?_
    refine GSteps.cons (gm_val (v := .bool false) rfl (fun _ => rfl) (fun _ => rfl) (fun γ w h => ex_assign _) rfl) ?_
    exact GSteps.nil
  intro γ1 w1 hb1 hB1 _
  refine th_r ?_
  have A2 : SB 26 w1 (γ1 0) [.n 6 x.re.val, .n 6 x.im.val] := (hB1 0 (by decide)).2
  have le2 := (hB1 0 (by decide)).1
  have HB3 := below_then (Below.refl w.heap.size w) hb1.out
  refine wp_seq (region_m (F := fun _ => ⟨#[nv 6 [x.re.val, x.im.val], .pointer (some ⟨(γ1 0), 0, none⟩), .bool true, nv 6 [x.re.val, x.im.val], nv 6 [x.re.val, x.im.val], nv 6 [x.re.val, x.im.val], .bool true], []⟩) 0 (fun _ => 0) (fun _ => 0) (fun _ => 0) (fun _ => []) (fun _ => []) [3, 4, 5, 6, 2] (.inl ⟨rfl, by kernel_rfl⟩) (by kernel_rfl) rfl rfl rfl ?_ ?_)
  · refine GSteps.cons (gm_val (v := nv 6 [x.re.val, x.im.val]) rfl (fun _ => rfl) (fun _ => rfl) (fun γ w h => ex_loadsn (K := 6) 0 2 (m := [x.re.val, x.im.val]) flFp2 rfl rfl (A2.keep h.out) rfl rfl) rfl) ?_
    refine GSteps.cons (gm_call (v := nv 6 [x.re.val, x.im.val]) rfl (fun _ => rfl) (fun _ => rfl) (fun γ w => ex_call (vs := [nv 6 [x.re.val, x.im.val]]) rfl Try.call27 rfl) (fun w h => duoClean_z x rfl _) rfl) ?_
    refine GSteps.cons (gm_val (v := nv 6 [x.re.val, x.im.val]) rfl (fun _ => rfl) (fun _ => rfl) (fun γ w h => ex_loadsn (K := 6) 0 2 (m := [x.re.val, x.im.val]) flFp2 rfl rfl (A2.keep h.out) rfl rfl) rfl) ?_
    refine GSteps.cons (gm_val (v := .bool true) rfl (fun _ => rfl) (fun _ => rfl) (fun γ w h => ex_eqt (K := 6) (l := [x.re.val, x.im.val]) eqFp2 rfl rfl rfl rfl) rfl) ?_
    refine GSteps.cons (gm_val (v := .bool true) rfl (fun _ => rfl) (fun _ => rfl) (fun γ w h => ex_assign _) rfl) ?_
    exact GSteps.nil
  intro _ w4 hb4 _ _
  refine th_r ?_
  have A5 := A2.keep hb4.out
  have HB6 := below_then HB3 hb4.out
  exact wp_ret (bodyPost_ret (ret1 Try.results17 (res_tmp rfl)) rfl ⟨rfl, HB6⟩)

set_option maxRecDepth 20000 in
set_option maxHeartbeats 4000000 in
theorem twomeets_v (x y : Zq) (r : Bool) (hr : r = true ↔ y * y = x * x * x + b2) (w : World) :
    Calls Try.prog 18 #[nv 6 [x.re.val, x.im.val], nv 6 [y.re.val, y.im.val]] w (Is (.bool r) w) := by
  obtain ⟨z1, ez1⟩ : ∃ q_ : Zq, q_ = x * x := ⟨_, rfl⟩
  obtain ⟨z2, ez2⟩ : ∃ q_ : Zq, q_ = z1 * x := ⟨_, rfl⟩
  obtain ⟨z3, ez3⟩ : ∃ q_ : Zq, q_ = y * y := ⟨_, rfl⟩
  obtain ⟨z4, ez4⟩ : ∃ q_ : Zq, q_ = z2 + b2 := ⟨_, rfl⟩
  go_enter Try.func18, Try.ntmps18
  refine wp_seq (region_m (F := fun γ => ⟨#[nv 6 [x.re.val, x.im.val], nv 6 [y.re.val, y.im.val], .pointer (some ⟨γ 0, 0, none⟩), .pointer (some ⟨γ 1, 0, none⟩), .bool false, undef, undef, undef, undef, undef, undef, undef, undef, undef, undef, undef, undef, undef], []⟩) 2 (fun j_ => match j_ with | 0 => 26 | _ => 26) (fun j_ => match j_ with | 0 => 0 | _ => 1) (fun j_ => match j_ with | 0 => 0 | _ => 1) (fun j_ => match j_ with | 0 => segs [.n 6 x.re.val, .n 6 x.im.val] | _ => segs [.n 6 y.re.val, .n 6 y.im.val]) (fun j_ => match j_ with | 0 => segs [.n 6 x.re.val, .n 6 x.im.val] | _ => segs [.n 6 y.re.val, .n 6 y.im.val]) [2, 3, 4] (.inr ⟨rfl, by kernel_rfl⟩) (by kernel_rfl) rfl rfl rfl ?_ ?_)
  · refine GSteps.cons (gm_box 0 rfl (fun _ => rfl) (fun _ _ => rfl) (fun γ w h => ex_boxsn (K := 6) (l := [x.re.val, x.im.val]) rfl) rfl rfl rfl) ?_
    refine GSteps.cons (gm_box 1 rfl (fun _ => rfl) (fun _ _ => rfl) (fun γ w h => ex_boxsn (K := 6) (l := [y.re.val, y.im.val]) rfl) rfl rfl rfl) ?_
    refine GSteps.cons (gm_val (v := .bool false) rfl (fun _ => rfl) (fun _ => rfl) (fun γ w h => ex_assign _) rfl) ?_
    exact GSteps.nil
  intro γ1 w1 hb1 hB1 hn1
  refine th_r ?_
  have A2 : SB 26 w1 (γ1 0) [.n 6 x.re.val, .n 6 x.im.val] := (hB1 0 (by decide)).2
  have le2 := (hB1 0 (by decide)).1
  have A3 : SB 26 w1 (γ1 1) [.n 6 y.re.val, .n 6 y.im.val] := (hB1 1 (by decide)).2
  have le3 := (hB1 1 (by decide)).1
  have HB4 := below_then (Below.refl w.heap.size w) hb1.out
  refine wp_seq (region_m (F := fun γ => ⟨#[nv 6 [x.re.val, x.im.val], nv 6 [y.re.val, y.im.val], .pointer (some ⟨(γ1 0), 0, none⟩), .pointer (some ⟨(γ1 1), 0, none⟩), .bool false, .pointer (some ⟨γ 0, 0, none⟩), nv 6 [x.re.val, x.im.val], nv 6 [x.re.val, x.im.val], nv 6 [z1.re.val, z1.im.val], nv 6 [x.re.val, x.im.val], nv 6 [z2.re.val, z2.im.val], undef, undef, undef, undef, undef, undef, undef], []⟩) 1 (fun _ => 26) (fun _ => 5) (fun _ => 6) (fun _ => segs [.n 6 0, .n 6 0]) (fun _ => segs [.n 6 z2.re.val, .n 6 z2.im.val]) [6, 7, 8, 9, 10, 5] (.inl ⟨rfl, by kernel_rfl⟩) (by kernel_rfl) rfl rfl rfl ?_ ?_)
  · refine GSteps.cons (gm_val (v := nv 6 [x.re.val, x.im.val]) rfl (fun _ => rfl) (fun _ => rfl) (fun γ w h => ex_loadsn (K := 6) 0 2 (m := [x.re.val, x.im.val]) flFp2 rfl rfl (A2.keep h.out) rfl rfl) rfl) ?_
    refine GSteps.cons (gm_val (v := nv 6 [x.re.val, x.im.val]) rfl (fun _ => rfl) (fun _ => rfl) (fun γ w h => ex_loadsn (K := 6) 0 2 (m := [x.re.val, x.im.val]) flFp2 rfl rfl (A2.keep h.out) rfl rfl) rfl) ?_
    refine GSteps.cons (gm_call (v := nv 6 [z1.re.val, z1.im.val]) rfl (fun _ => rfl) (fun _ => rfl) (fun γ w => ex_call (vs := [nv 6 [x.re.val, x.im.val], nv 6 [x.re.val, x.im.val]]) rfl Try.call28 rfl) (fun w h => duoMul_z x x z1 rfl rfl ez1 _) rfl) ?_
    refine GSteps.cons (gm_val (v := nv 6 [x.re.val, x.im.val]) rfl (fun _ => rfl) (fun _ => rfl) (fun γ w h => ex_loadsn (K := 6) 0 2 (m := [x.re.val, x.im.val]) flFp2 rfl rfl (A2.keep h.out) rfl rfl) rfl) ?_
    refine GSteps.cons (gm_call (v := nv 6 [z2.re.val, z2.im.val]) rfl (fun _ => rfl) (fun _ => rfl) (fun γ w => ex_call (vs := [nv 6 [z1.re.val, z1.im.val], nv 6 [x.re.val, x.im.val]]) rfl Try.call28 rfl) (fun w h => duoMul_z z1 x z2 rfl rfl ez2 _) rfl) ?_
    refine GSteps.cons (gm_new 0 rfl (fun _ => rfl) (fun _ _ => rfl) (fun γ w => ex_allocsn (K := 6) (l := [0, 0]) zFp2) rfl (by kernel_rfl)) ?_
    refine GSteps.cons (gm_store 0 rfl rfl (fun _ => rfl) (len_segs (l := [.n 6 z2.re.val, .n 6 z2.im.val]) (l' := [.n 6 0, .n 6 0]) rfl) (fun γ w h => ex_stores 0 2 (l := [.n 6 0, .n 6 0]) (m := [.n 6 z2.re.val, .n 6 z2.im.val]) flFp2.2 rfl rfl rfl (nv_cells 6 [z2.re.val, z2.im.val]) h rfl rfl) rfl rfl (by kernel_rfl)) ?_
    exact GSteps.nil
  intro γ5 w5 hb5 hB5 _
  refine th_r ?_
  have A6 := A2.keep hb5.out
  have A7 := A3.keep hb5.out
  have A8 : SB 26 w5 (γ5 0) [.n 6 z2.re.val, .n 6 z2.im.val] := (hB5 0 (by decide)).2
  have le8 := (hB5 0 (by decide)).1
  have HB9 := below_then HB4 hb5.out
  refine wp_seq (region_m (F := fun _ => ⟨#[nv 6 [x.re.val, x.im.val], nv 6 [y.re.val, y.im.val], .pointer (some ⟨(γ1 0), 0, none⟩), .pointer (some ⟨(γ1 1), 0, none⟩), .bool r, .pointer (some ⟨(γ5 0), 0, none⟩), nv 6 [x.re.val, x.im.val], nv 6 [x.re.val, x.im.val], nv 6 [z1.re.val, z1.im.val], nv 6 [x.re.val, x.im.val], nv 6 [z2.re.val, z2.im.val], nv 6 [y.re.val, y.im.val], nv 6 [y.re.val, y.im.val], nv 6 [z3.re.val, z3.im.val], nv 6 [z2.re.val, z2.im.val], nv 6 [4, 4], nv 6 [z4.re.val, z4.im.val], .bool r], []⟩) 0 (fun _ => 0) (fun _ => 0) (fun _ => 0) (fun _ => []) (fun _ => []) [11, 12, 13, 14, 15, 16, 17, 4] (.inl ⟨rfl, by kernel_rfl⟩) (by kernel_rfl) rfl rfl rfl ?_ ?_)
  · refine GSteps.cons (gm_val (v := nv 6 [y.re.val, y.im.val]) rfl (fun _ => rfl) (fun _ => rfl) (fun γ w h => ex_loadsn (K := 6) 0 2 (m := [y.re.val, y.im.val]) flFp2 rfl rfl (A7.keep h.out) rfl rfl) rfl) ?_
    refine GSteps.cons (gm_val (v := nv 6 [y.re.val, y.im.val]) rfl (fun _ => rfl) (fun _ => rfl) (fun γ w h => ex_loadsn (K := 6) 0 2 (m := [y.re.val, y.im.val]) flFp2 rfl rfl (A7.keep h.out) rfl rfl) rfl) ?_
    refine GSteps.cons (gm_call (v := nv 6 [z3.re.val, z3.im.val]) rfl (fun _ => rfl) (fun _ => rfl) (fun γ w => ex_call (vs := [nv 6 [y.re.val, y.im.val], nv 6 [y.re.val, y.im.val]]) rfl Try.call28 rfl) (fun w h => duoMul_z y y z3 rfl rfl ez3 _) rfl) ?_
    refine GSteps.cons (gm_val (v := nv 6 [z2.re.val, z2.im.val]) rfl (fun _ => rfl) (fun _ => rfl) (fun γ w h => ex_loadsn (K := 6) 0 2 (m := [z2.re.val, z2.im.val]) flFp2 rfl rfl (A8.keep h.out) rfl rfl) rfl) ?_
    refine GSteps.cons (gm_call (v := nv 6 [4, 4]) rfl (fun _ => rfl) (fun _ => rfl) (fun γ w => ex_call (vs := [.int .u64 4]) rfl Try.call30 rfl) (fun w h => twoalike_4 _) rfl) ?_
    refine GSteps.cons (gm_call (v := nv 6 [z4.re.val, z4.im.val]) rfl (fun _ => rfl) (fun _ => rfl) (fun γ w => ex_call (vs := [nv 6 [z2.re.val, z2.im.val], nv 6 [4, 4]]) rfl Try.call29 rfl) (fun w h => duoAdd_z z2 b2 z4 rfl qc44 ez4 _) rfl) ?_
    refine GSteps.cons (gm_val (v := .bool r) rfl (fun _ => rfl) (fun _ => rfl) (fun γ w h => ex_eqzq z3 z4 rfl rfl rfl rfl r (by subst ez4 ez3 ez2 ez1; exact hr)) rfl) ?_
    refine GSteps.cons (gm_val (v := .bool r) rfl (fun _ => rfl) (fun _ => rfl) (fun γ w h => ex_assign _) rfl) ?_
    exact GSteps.nil
  intro _ w10 hb10 _ _
  refine th_r ?_
  have A11 := A6.keep hb10.out
  have A12 := A7.keep hb10.out
  have A13 := A8.keep hb10.out
  have HB14 := below_then HB9 hb10.out
  exact wp_ret (bodyPost_ret (ret1 Try.results18 (res_tmp rfl)) rfl ⟨rfl, HB14⟩)

set_option maxRecDepth 20000 in
set_option maxHeartbeats 4000000 in
theorem twoRight_aff (x y : Zq) (r : Bool) (hr : r = true ↔ y * y = x * x * x + b2) (w : World) :
    Calls Try.prog 7 #[sv [.n 6 x.re.val, .n 6 x.im.val, .n 6 y.re.val, .n 6 y.im.val, .b false]] w (Is (.bool r) w) := by
  go_enter Try.func7, Try.ntmps7
  refine wp_seq (region_m (F := fun γ => ⟨#[sv [.n 6 x.re.val, .n 6 x.im.val, .n 6 y.re.val, .n 6 y.im.val, .b false], .pointer (some ⟨γ 0, 0, none⟩), .bool false, undef, undef, undef, undef, undef, undef, undef, undef, undef, undef, undef, undef, undef, undef, undef, undef, undef, undef, undef, undef], []⟩) 1 (fun _ => 28) (fun _ => 0) (fun _ => 0) (fun _ => segs [.n 6 x.re.val, .n 6 x.im.val, .n 6 y.re.val, .n 6 y.im.val, .b false]) (fun _ => segs [.n 6 x.re.val, .n 6 x.im.val, .n 6 y.re.val, .n 6 y.im.val, .b false]) [1, 2] (.inr ⟨rfl, by kernel_rfl⟩) (by kernel_rfl) rfl rfl rfl ?_ ?_)
  · refine GSteps.cons (gm_box 0 rfl (fun _ => rfl) (fun _ _ => rfl) (fun γ w h => ex_boxs (l := [.n 6 x.re.val, .n 6 x.im.val, .n 6 y.re.val, .n 6 y.im.val, .b false]) rfl) rfl rfl rfl) ?_
    refine GSteps.cons (gm_val (v := .bool false) rfl (fun _ => rfl) (fun _ => rfl) (fun γ w h => ex_assign _) rfl) ?_
    exact GSteps.nil
  intro γ1 w1 hb1 hB1 _
  refine th_r ?_
  have A2 : SB 28 w1 (γ1 0) [.n 6 x.re.val, .n 6 x.im.val, .n 6 y.re.val, .n 6 y.im.val, .b false] := (hB1 0 (by decide)).2
  have le2 := (hB1 0 (by decide)).1
  have HB3 := below_then (Below.refl w.heap.size w) hb1.out
  refine wp_seq ?_
  refine wp_seq (region_m (F := fun _ => ⟨#[sv [.n 6 x.re.val, .n 6 x.im.val, .n 6 y.re.val, .n 6 y.im.val, .b false], .pointer (some ⟨(γ1 0), 0, none⟩), .bool false, .pointer (some ⟨(γ1 0), 24, none⟩), .bool false, undef, undef, undef, undef, undef, undef, undef, undef, undef, undef, undef, undef, undef, undef, undef, undef, undef, undef], []⟩) 0 (fun _ => 0) (fun _ => 0) (fun _ => 0) (fun _ => []) (fun _ => []) [3, 4] (.inr ⟨rfl, by kernel_rfl⟩) (by kernel_rfl) rfl rfl rfl ?_ ?_)
  · refine GSteps.cons (gm_valg (fun γ => .pointer (some ⟨(γ1 0), 24, none⟩)) rfl (fun _ => rfl) (fun _ => rfl) (fun γ w h => ex_field faG2_2 rfl) rfl) ?_
    refine GSteps.cons (gm_val (v := .bool false) rfl (fun _ => rfl) (fun _ => rfl) (fun γ w h => ex_load1 4 (s := .b false) (v := .bool false) sgBool rfl (A2.keep h.out) rfl rfl rfl) rfl) ?_
    exact GSteps.nil
  intro _ w4 hb4 _ _
  refine th_r ?_
  have A5 := A2.keep hb4.out
  have HB6 := below_then HB3 hb4.out
  refine wp_cond_false rfl ?_
  refine wp_skip ?_
  refine th_r ?_
  refine wp_seq (region_m (F := fun _ => ⟨#[sv [.n 6 x.re.val, .n 6 x.im.val, .n 6 y.re.val, .n 6 y.im.val, .b false], .pointer (some ⟨(γ1 0), 0, none⟩), .bool r, .pointer (some ⟨(γ1 0), 24, none⟩), .bool false, undef, undef, undef, .pointer (some ⟨(γ1 0), 0, none⟩), nv 6 [x.re.val, x.im.val], .bool true, .bool true, .pointer (some ⟨(γ1 0), 12, none⟩), nv 6 [y.re.val, y.im.val], .bool true, .bool true, .bool true, .pointer (some ⟨(γ1 0), 0, none⟩), nv 6 [x.re.val, x.im.val], .pointer (some ⟨(γ1 0), 12, none⟩), nv 6 [y.re.val, y.im.val], .bool r, .bool r], []⟩) 0 (fun _ => 0) (fun _ => 0) (fun _ => 0) (fun _ => []) (fun _ => []) [8, 9, 10, 11, 12, 13, 14, 15, 16, 17, 18, 19, 20, 21, 22, 2] (.inr ⟨rfl, by kernel_rfl⟩) (by kernel_rfl) rfl rfl rfl ?_ ?_)
  · refine GSteps.cons (gm_valg (fun γ => .pointer (some ⟨(γ1 0), 0, none⟩)) rfl (fun _ => rfl) (fun _ => rfl) (fun γ w h => ex_field faG2_0 rfl) rfl) ?_
    refine GSteps.cons (gm_val (v := nv 6 [x.re.val, x.im.val]) rfl (fun _ => rfl) (fun _ => rfl) (fun γ w h => ex_loadsn (K := 6) 0 2 (m := [x.re.val, x.im.val]) flFp2 rfl rfl (A5.keep h.out) rfl rfl) rfl) ?_
    refine GSteps.cons (gm_call (v := .bool true) rfl (fun _ => rfl) (fun _ => rfl) (fun γ w => ex_call (vs := [nv 6 [x.re.val, x.im.val]]) rfl Try.call17 rfl) (fun w h => twobelow_yes x _) rfl) ?_
    refine GSteps.cons (gm_val (v := .bool true) rfl (fun _ => rfl) (fun _ => rfl) (fun γ w h => ex_move _) rfl) ?_
    refine GSteps.cons (gm_valg (fun γ => .pointer (some ⟨(γ1 0), 12, none⟩)) rfl (fun _ => rfl) (fun _ => rfl) (fun γ w h => ex_field faG2_1 rfl) rfl) ?_
    refine GSteps.cons (gm_val (v := nv 6 [y.re.val, y.im.val]) rfl (fun _ => rfl) (fun _ => rfl) (fun γ w h => ex_loadsn (K := 6) 2 2 (m := [y.re.val, y.im.val]) flFp2 rfl rfl (A5.keep h.out) rfl rfl) rfl) ?_
    refine GSteps.cons (gm_call (v := .bool true) rfl (fun _ => rfl) (fun _ => rfl) (fun γ w => ex_call (vs := [nv 6 [y.re.val, y.im.val]]) rfl Try.call17 rfl) (fun w h => twobelow_yes y _) rfl) ?_
    refine GSteps.cons (gm_val (v := .bool true) rfl (fun _ => rfl) (fun _ => rfl) (fun γ w h => ex_pick (r := true) rfl) rfl) ?_
    refine GSteps.cons (gm_val (v := .bool true) rfl (fun _ => rfl) (fun _ => rfl) (fun γ w h => ex_move _) rfl) ?_
    refine GSteps.cons (gm_valg (fun γ => .pointer (some ⟨(γ1 0), 0, none⟩)) rfl (fun _ => rfl) (fun _ => rfl) (fun γ w h => ex_field faG2_0 rfl) rfl) ?_
    refine GSteps.cons (gm_val (v := nv 6 [x.re.val, x.im.val]) rfl (fun _ => rfl) (fun _ => rfl) (fun γ w h => ex_loadsn (K := 6) 0 2 (m := [x.re.val, x.im.val]) flFp2 rfl rfl (A5.keep h.out) rfl rfl) rfl) ?_
    refine GSteps.cons (gm_valg (fun γ => .pointer (some ⟨(γ1 0), 12, none⟩)) rfl (fun _ => rfl) (fun _ => rfl) (fun γ w h => ex_field faG2_1 rfl) rfl) ?_
    refine GSteps.cons (gm_val (v := nv 6 [y.re.val, y.im.val]) rfl (fun _ => rfl) (fun _ => rfl) (fun γ w h => ex_loadsn (K := 6) 2 2 (m := [y.re.val, y.im.val]) flFp2 rfl rfl (A5.keep h.out) rfl rfl) rfl) ?_
    refine GSteps.cons (gm_call (v := .bool r) rfl (fun _ => rfl) (fun _ => rfl) (fun γ w => ex_call (vs := [nv 6 [x.re.val, x.im.val], nv 6 [y.re.val, y.im.val]]) rfl Try.call18 rfl) (fun w h => twomeets_v x y r hr _) rfl) ?_
    refine GSteps.cons (gm_val (v := .bool r) rfl (fun _ => rfl) (fun _ => rfl) (fun γ w h => ex_pick (r := true) rfl) rfl) ?_
    refine GSteps.cons (gm_val (v := .bool r) rfl (fun _ => rfl) (fun _ => rfl) (fun γ w h => ex_assign _) rfl) ?_
    exact GSteps.nil
  intro _ w7 hb7 _ _
  refine th_r ?_
  have A8 := A5.keep hb7.out
  have HB9 := below_then HB6 hb7.out
  exact wp_ret (bodyPost_ret (ret1 Try.results7 (res_tmp rfl)) rfl ⟨rfl, HB9⟩)

set_option maxRecDepth 20000 in
set_option maxHeartbeats 4000000 in
theorem r9Right_rawx (x0 x1 y0 y1 : Nat) (hx0 : x0 < fpB) (hx1 : x1 < fpB) (h0 : ¬ (x0 < pN ∧ x1 < pN)) (w : World) :
    Calls Try.prog 5 #[sv [.n 6 x0, .n 6 x1, .n 6 y0, .n 6 y1, .b false]] w (Is (.bool false) w) := by
  obtain ⟨c, ec⟩ : ∃ c, c = x0 % pN := ⟨_, rfl⟩
  obtain ⟨d, ed⟩ : ∃ d, d = x1 % pN := ⟨_, rfl⟩
  have hltc : c < pN := ec ▸ fpM_mod _
  have hltd : d < pN := ed ▸ fpM_mod _
  have hc : c < fpB := Nat.lt_trans hltc fpM_lt
  have hd : d < fpB := Nat.lt_trans hltd fpM_lt
  go_enter Try.func5, Try.ntmps5
  refine wp_seq (region_m (F := fun γ => ⟨List.toArray ((sv [.n 6 x0, .n 6 x1, .n 6 y0, .n 6 y1, .b false]) :: (.pointer (some ⟨γ 0, 0, none⟩)) :: (.bool false) :: undef :: undef :: undef :: undef :: undef :: undef :: undef :: undef :: undef :: undef :: undef :: undef :: undef :: undef :: undef :: undef :: undef :: undef :: undef :: undef :: undef :: undef :: undef :: undef :: undef :: undef :: undef :: undef :: undef :: undef :: undef :: undef :: undef :: undef :: undef :: undef :: undef :: undef :: undef :: []), []⟩) 1 (fun _ => 28) (fun _ => 0) (fun _ => 0) (fun _ => segs [.n 6 x0, .n 6 x1, .n 6 y0, .n 6 y1, .b false]) (fun _ => segs [.n 6 x0, .n 6 x1, .n 6 y0, .n 6 y1, .b false]) [1, 2] (.inr ⟨rfl, by kernel_rfl⟩) (by kernel_rfl) rfl rfl rfl ?_ ?_)
  · refine GSteps.cons (gm_box 0 rfl (fun _ => rfl) (fun _ _ => rfl) (fun γ w h => ex_boxs (l := [.n 6 x0, .n 6 x1, .n 6 y0, .n 6 y1, .b false]) rfl) rfl rfl rfl) ?_
    refine GSteps.cons (gm_val (v := .bool false) rfl (fun _ => rfl) (fun _ => rfl) (fun γ w h => ex_assign _) rfl) ?_
    exact GSteps.nil
  intro γ1 w1 hb1 hB1 _
  refine th_r ?_
  have A2 : SB 28 w1 (γ1 0) [.n 6 x0, .n 6 x1, .n 6 y0, .n 6 y1, .b false] := (hB1 0 (by decide)).2
  have le2 := (hB1 0 (by decide)).1
  have HB3 := below_then (Below.refl w.heap.size w) hb1.out
  refine wp_seq ?_
  refine wp_seq (region_m (F := fun _ => ⟨List.toArray ((sv [.n 6 x0, .n 6 x1, .n 6 y0, .n 6 y1, .b false]) :: (.pointer (some ⟨(γ1 0), 0, none⟩)) :: (.bool false) :: undef :: (.pointer (some ⟨(γ1 0), 24, none⟩)) :: (.bool false) :: undef :: undef :: undef :: undef :: undef :: undef :: undef :: undef :: undef :: undef :: undef :: undef :: undef :: undef :: undef :: undef :: undef :: undef :: undef :: undef :: undef :: undef :: undef :: undef :: undef :: undef :: undef :: undef :: undef :: undef :: undef :: undef :: undef :: undef :: undef :: undef :: []), []⟩) 0 (fun _ => 0) (fun _ => 0) (fun _ => 0) (fun _ => []) (fun _ => []) [4, 5] (.inr ⟨rfl, by kernel_rfl⟩) (by kernel_rfl) rfl rfl rfl ?_ ?_)
  · refine GSteps.cons (gm_valg (fun γ => .pointer (some ⟨(γ1 0), 24, none⟩)) rfl (fun _ => rfl) (fun _ => rfl) (fun γ w h => ex_field faG2_2 rfl) rfl) ?_
    refine GSteps.cons (gm_val (v := .bool false) rfl (fun _ => rfl) (fun _ => rfl) (fun γ w h => ex_load1 4 (s := .b false) (v := .bool false) sgBool rfl (A2.keep h.out) rfl rfl rfl) rfl) ?_
    exact GSteps.nil
  intro _ w4 hb4 _ _
  refine th_r ?_
  have A5 := A2.keep hb4.out
  have HB6 := below_then HB3 hb4.out
  refine wp_cond_false rfl ?_
  refine wp_skip ?_
  refine th_r ?_
  refine wp_seq ?_
  refine wp_seq (region_m (F := fun _ => ⟨List.toArray ((sv [.n 6 x0, .n 6 x1, .n 6 y0, .n 6 y1, .b false]) :: (.pointer (some ⟨(γ1 0), 0, none⟩)) :: (.bool false) :: undef :: (.pointer (some ⟨(γ1 0), 24, none⟩)) :: (.bool false) :: undef :: undef :: undef :: (.pointer (some ⟨(γ1 0), 0, none⟩)) :: (nv 6 [x0, x1]) :: (nv 6 [c, d]) :: (.pointer (some ⟨(γ1 0), 0, none⟩)) :: (nv 6 [x0, x1]) :: (.bool true) :: (.bool true) :: undef :: undef :: undef :: undef :: undef :: undef :: (.bool true) :: undef :: undef :: undef :: undef :: undef :: undef :: undef :: undef :: undef :: undef :: undef :: undef :: undef :: undef :: undef :: undef :: undef :: undef :: undef :: []), []⟩) 0 (fun _ => 0) (fun _ => 0) (fun _ => 0) (fun _ => []) (fun _ => []) [9, 10, 11, 12, 13, 14, 15, 16, 17, 18, 19, 20, 21, 22] (.inl ⟨rfl, by kernel_rfl⟩) (by kernel_rfl) rfl rfl rfl ?_ ?_)
  · refine GSteps.cons (gm_valg (fun γ => .pointer (some ⟨(γ1 0), 0, none⟩)) rfl (fun _ => rfl) (fun _ => rfl) (fun γ w h => ex_field faG2_0 rfl) rfl) ?_
    refine GSteps.cons (gm_val (v := nv 6 [x0, x1]) rfl (fun _ => rfl) (fun _ => rfl) (fun γ w h => ex_loadsn (K := 6) 0 2 (m := [x0, x1]) flFp2 rfl rfl (A5.keep h.out) rfl rfl) rfl) ?_
    refine GSteps.cons (gm_call (v := nv 6 [c, d]) rfl (fun _ => rfl) (fun _ => rfl) (fun γ w => ex_call (vs := [nv 6 [x0, x1]]) rfl Try.call13 rfl) (fun w h => r5Clean_e x0 x1 _ hx0 hx1 c d ec ed) rfl) ?_
    refine GSteps.cons (gm_valg (fun γ => .pointer (some ⟨(γ1 0), 0, none⟩)) rfl (fun _ => rfl) (fun _ => rfl) (fun γ w h => ex_field faG2_0 rfl) rfl) ?_
    refine GSteps.cons (gm_val (v := nv 6 [x0, x1]) rfl (fun _ => rfl) (fun _ => rfl) (fun γ w h => ex_loadsn (K := 6) 0 2 (m := [x0, x1]) flFp2 rfl rfl (A5.keep h.out) rfl rfl) rfl) ?_
    refine GSteps.cons (gm_val (v := .bool true) rfl (fun _ => rfl) (fun _ => rfl) (fun γ w h => ex_neqn (K := 6) (l := [c, d]) (m := [x0, x1]) eqFp2 rfl rfl rfl rfl rfl (fpB_all2 hc hd) (fpB_all2 hx0 hx1) rfl true (by simp; omega)) rfl) ?_
    refine GSteps.cons (gm_val (v := .bool true) rfl (fun _ => rfl) (fun _ => rfl) (fun γ w h => ex_move _) rfl) ?_
    refine GSteps.cons (gm_skip rfl (fun _ => rfl) (fun _ => rfl) rfl) ?_
    refine GSteps.cons (gm_skip rfl (fun _ => rfl) (fun _ => rfl) rfl) ?_
    refine GSteps.cons (gm_skip rfl (fun _ => rfl) (fun _ => rfl) rfl) ?_
    refine GSteps.cons (gm_skip rfl (fun _ => rfl) (fun _ => rfl) rfl) ?_
    refine GSteps.cons (gm_skip rfl (fun _ => rfl) (fun _ => rfl) rfl) ?_
    refine GSteps.cons (gm_skip rfl (fun _ => rfl) (fun _ => rfl) rfl) ?_
    refine GSteps.cons (gm_val (v := .bool true) rfl (fun _ => rfl) (fun _ => rfl) (fun γ w h => ex_pick (r := true) rfl) rfl) ?_
    exact GSteps.nil
  intro _ w7 hb7 _ _
  refine th_r ?_
  have A8 := A5.keep hb7.out
  have HB9 := below_then HB6 hb7.out
  refine wp_cond_true rfl ?_
  refine wp_seq (region_m (F := fun _ => ⟨List.toArray ((sv [.n 6 x0, .n 6 x1, .n 6 y0, .n 6 y1, .b false]) :: (.pointer (some ⟨(γ1 0), 0, none⟩)) :: (.bool false) :: undef :: (.pointer (some ⟨(γ1 0), 24, none⟩)) :: (.bool false) :: undef :: undef :: undef :: (.pointer (some ⟨(γ1 0), 0, none⟩)) :: (nv 6 [x0, x1]) :: (nv 6 [c, d]) :: (.pointer (some ⟨(γ1 0), 0, none⟩)) :: (nv 6 [x0, x1]) :: (.bool true) :: (.bool true) :: undef :: undef :: undef :: undef :: undef :: undef :: (.bool true) :: undef :: undef :: undef :: undef :: undef :: undef :: undef :: undef :: undef :: undef :: undef :: undef :: undef :: undef :: undef :: undef :: undef :: undef :: undef :: []), []⟩) 0 (fun _ => 0) (fun _ => 0) (fun _ => 0) (fun _ => []) (fun _ => []) [2] (.inr ⟨rfl, by kernel_rfl⟩) (by kernel_rfl) rfl rfl rfl ?_ ?_)
  · refine GSteps.cons (gm_val (v := .bool false) rfl (fun _ => rfl) (fun _ => rfl) (fun γ w h => ex_assign _) rfl) ?_
    exact GSteps.nil
  intro _ w10 hb10 _ _
  refine th_r ?_
  have A11 := A8.keep hb10.out
  have HB12 := below_then HB9 hb10.out
  exact wp_ret (th_ret (bodyPost_ret (ret1 Try.results5 (res_tmp rfl)) rfl ⟨rfl, HB12⟩))

set_option maxRecDepth 20000 in
set_option maxHeartbeats 4000000 in
theorem r9Right_rawy (x : Zq) (y0 y1 : Nat) (hy0 : y0 < fpB) (hy1 : y1 < fpB) (h0 : ¬ (y0 < pN ∧ y1 < pN)) (w : World) :
    Calls Try.prog 5 #[sv [.n 6 x.re.val, .n 6 x.im.val, .n 6 y0, .n 6 y1, .b false]] w (Is (.bool false) w) := by
  obtain ⟨c, ec⟩ : ∃ c, c = y0 % pN := ⟨_, rfl⟩
  obtain ⟨d, ed⟩ : ∃ d, d = y1 % pN := ⟨_, rfl⟩
  have hltc : c < pN := ec ▸ fpM_mod _
  have hltd : d < pN := ed ▸ fpM_mod _
  have hc : c < fpB := Nat.lt_trans hltc fpM_lt
  have hd : d < fpB := Nat.lt_trans hltd fpM_lt
  go_enter Try.func5, Try.ntmps5
  refine wp_seq (region_m (F := fun γ => ⟨List.toArray ((sv [.n 6 x.re.val, .n 6 x.im.val, .n 6 y0, .n 6 y1, .b false]) :: (.pointer (some ⟨γ 0, 0, none⟩)) :: (.bool false) :: undef :: undef :: undef :: undef :: undef :: undef :: undef :: undef :: undef :: undef :: undef :: undef :: undef :: undef :: undef :: undef :: undef :: undef :: undef :: undef :: undef :: undef :: undef :: undef :: undef :: undef :: undef :: undef :: undef :: undef :: undef :: undef :: undef :: undef :: undef :: undef :: undef :: undef :: undef :: []), []⟩) 1 (fun _ => 28) (fun _ => 0) (fun _ => 0) (fun _ => segs [.n 6 x.re.val, .n 6 x.im.val, .n 6 y0, .n 6 y1, .b false]) (fun _ => segs [.n 6 x.re.val, .n 6 x.im.val, .n 6 y0, .n 6 y1, .b false]) [1, 2] (.inr ⟨rfl, by kernel_rfl⟩) (by kernel_rfl) rfl rfl rfl ?_ ?_)
  · refine GSteps.cons (gm_box 0 rfl (fun _ => rfl) (fun _ _ => rfl) (fun γ w h => ex_boxs (l := [.n 6 x.re.val, .n 6 x.im.val, .n 6 y0, .n 6 y1, .b false]) rfl) rfl rfl rfl) ?_
    refine GSteps.cons (gm_val (v := .bool false) rfl (fun _ => rfl) (fun _ => rfl) (fun γ w h => ex_assign _) rfl) ?_
    exact GSteps.nil
  intro γ1 w1 hb1 hB1 _
  refine th_r ?_
  have A2 : SB 28 w1 (γ1 0) [.n 6 x.re.val, .n 6 x.im.val, .n 6 y0, .n 6 y1, .b false] := (hB1 0 (by decide)).2
  have le2 := (hB1 0 (by decide)).1
  have HB3 := below_then (Below.refl w.heap.size w) hb1.out
  refine wp_seq ?_
  refine wp_seq (region_m (F := fun _ => ⟨List.toArray ((sv [.n 6 x.re.val, .n 6 x.im.val, .n 6 y0, .n 6 y1, .b false]) :: (.pointer (some ⟨(γ1 0), 0, none⟩)) :: (.bool false) :: undef :: (.pointer (some ⟨(γ1 0), 24, none⟩)) :: (.bool false) :: undef :: undef :: undef :: undef :: undef :: undef :: undef :: undef :: undef :: undef :: undef :: undef :: undef :: undef :: undef :: undef :: undef :: undef :: undef :: undef :: undef :: undef :: undef :: undef :: undef :: undef :: undef :: undef :: undef :: undef :: undef :: undef :: undef :: undef :: undef :: undef :: []), []⟩) 0 (fun _ => 0) (fun _ => 0) (fun _ => 0) (fun _ => []) (fun _ => []) [4, 5] (.inr ⟨rfl, by kernel_rfl⟩) (by kernel_rfl) rfl rfl rfl ?_ ?_)
  · refine GSteps.cons (gm_valg (fun γ => .pointer (some ⟨(γ1 0), 24, none⟩)) rfl (fun _ => rfl) (fun _ => rfl) (fun γ w h => ex_field faG2_2 rfl) rfl) ?_
    refine GSteps.cons (gm_val (v := .bool false) rfl (fun _ => rfl) (fun _ => rfl) (fun γ w h => ex_load1 4 (s := .b false) (v := .bool false) sgBool rfl (A2.keep h.out) rfl rfl rfl) rfl) ?_
    exact GSteps.nil
  intro _ w4 hb4 _ _
  refine th_r ?_
  have A5 := A2.keep hb4.out
  have HB6 := below_then HB3 hb4.out
  refine wp_cond_false rfl ?_
  refine wp_skip ?_
  refine th_r ?_
  refine wp_seq ?_
  refine wp_seq (region_m (F := fun _ => ⟨List.toArray ((sv [.n 6 x.re.val, .n 6 x.im.val, .n 6 y0, .n 6 y1, .b false]) :: (.pointer (some ⟨(γ1 0), 0, none⟩)) :: (.bool false) :: undef :: (.pointer (some ⟨(γ1 0), 24, none⟩)) :: (.bool false) :: undef :: undef :: undef :: (.pointer (some ⟨(γ1 0), 0, none⟩)) :: (nv 6 [x.re.val, x.im.val]) :: (nv 6 [x.re.val, x.im.val]) :: (.pointer (some ⟨(γ1 0), 0, none⟩)) :: (nv 6 [x.re.val, x.im.val]) :: (.bool false) :: (.bool false) :: (.pointer (some ⟨(γ1 0), 12, none⟩)) :: (nv 6 [y0, y1]) :: (nv 6 [c, d]) :: (.pointer (some ⟨(γ1 0), 12, none⟩)) :: (nv 6 [y0, y1]) :: (.bool true) :: (.bool true) :: undef :: undef :: undef :: undef :: undef :: undef :: undef :: undef :: undef :: undef :: undef :: undef :: undef :: undef :: undef :: undef :: undef :: undef :: undef :: []), []⟩) 0 (fun _ => 0) (fun _ => 0) (fun _ => 0) (fun _ => []) (fun _ => []) [9, 10, 11, 12, 13, 14, 15, 16, 17, 18, 19, 20, 21, 22] (.inl ⟨rfl, by kernel_rfl⟩) (by kernel_rfl) rfl rfl rfl ?_ ?_)
  · refine GSteps.cons (gm_valg (fun γ => .pointer (some ⟨(γ1 0), 0, none⟩)) rfl (fun _ => rfl) (fun _ => rfl) (fun γ w h => ex_field faG2_0 rfl) rfl) ?_
    refine GSteps.cons (gm_val (v := nv 6 [x.re.val, x.im.val]) rfl (fun _ => rfl) (fun _ => rfl) (fun γ w h => ex_loadsn (K := 6) 0 2 (m := [x.re.val, x.im.val]) flFp2 rfl rfl (A5.keep h.out) rfl rfl) rfl) ?_
    refine GSteps.cons (gm_call (v := nv 6 [x.re.val, x.im.val]) rfl (fun _ => rfl) (fun _ => rfl) (fun γ w => ex_call (vs := [nv 6 [x.re.val, x.im.val]]) rfl Try.call13 rfl) (fun w h => r5Clean_z x rfl _) rfl) ?_
    refine GSteps.cons (gm_valg (fun γ => .pointer (some ⟨(γ1 0), 0, none⟩)) rfl (fun _ => rfl) (fun _ => rfl) (fun γ w h => ex_field faG2_0 rfl) rfl) ?_
    refine GSteps.cons (gm_val (v := nv 6 [x.re.val, x.im.val]) rfl (fun _ => rfl) (fun _ => rfl) (fun γ w h => ex_loadsn (K := 6) 0 2 (m := [x.re.val, x.im.val]) flFp2 rfl rfl (A5.keep h.out) rfl rfl) rfl) ?_
    refine GSteps.cons (gm_val (v := .bool false) rfl (fun _ => rfl) (fun _ => rfl) (fun γ w h => ex_neqt (K := 6) (l := [x.re.val, x.im.val]) eqFp2 rfl rfl rfl rfl) rfl) ?_
    refine GSteps.cons (gm_val (v := .bool false) rfl (fun _ => rfl) (fun _ => rfl) (fun γ w h => ex_move _) rfl) ?_
    refine GSteps.cons (gm_valg (fun γ => .pointer (some ⟨(γ1 0), 12, none⟩)) rfl (fun _ => rfl) (fun _ => rfl) (fun γ w h => ex_field faG2_1 rfl) rfl) ?_
    refine GSteps.cons (gm_val (v := nv 6 [y0, y1]) rfl (fun _ => rfl) (fun _ => rfl) (fun γ w h => ex_loadsn (K := 6) 2 2 (m := [y0, y1]) flFp2 rfl rfl (A5.keep h.out) rfl rfl) rfl) ?_
    refine GSteps.cons (gm_call (v := nv 6 [c, d]) rfl (fun _ => rfl) (fun _ => rfl) (fun γ w => ex_call (vs := [nv 6 [y0, y1]]) rfl Try.call13 rfl) (fun w h => r5Clean_e y0 y1 _ hy0 hy1 c d ec ed) rfl) ?_
    refine GSteps.cons (gm_valg (fun γ => .pointer (some ⟨(γ1 0), 12, none⟩)) rfl (fun _ => rfl) (fun _ => rfl) (fun γ w h => ex_field faG2_1 rfl) rfl) ?_
    refine GSteps.cons (gm_val (v := nv 6 [y0, y1]) rfl (fun _ => rfl) (fun _ => rfl) (fun γ w h => ex_loadsn (K := 6) 2 2 (m := [y0, y1]) flFp2 rfl rfl (A5.keep h.out) rfl rfl) rfl) ?_
    refine GSteps.cons (gm_val (v := .bool true) rfl (fun _ => rfl) (fun _ => rfl) (fun γ w h => ex_neqn (K := 6) (l := [c, d]) (m := [y0, y1]) eqFp2 rfl rfl rfl rfl rfl (fpB_all2 hc hd) (fpB_all2 hy0 hy1) rfl true (by simp; omega)) rfl) ?_
    refine GSteps.cons (gm_val (v := .bool true) rfl (fun _ => rfl) (fun _ => rfl) (fun γ w h => ex_pick (r := false) rfl) rfl) ?_
    exact GSteps.nil
  intro _ w7 hb7 _ _
  refine th_r ?_
  have A8 := A5.keep hb7.out
  have HB9 := below_then HB6 hb7.out
  refine wp_cond_true rfl ?_
  refine wp_seq (region_m (F := fun _ => ⟨List.toArray ((sv [.n 6 x.re.val, .n 6 x.im.val, .n 6 y0, .n 6 y1, .b false]) :: (.pointer (some ⟨(γ1 0), 0, none⟩)) :: (.bool false) :: undef :: (.pointer (some ⟨(γ1 0), 24, none⟩)) :: (.bool false) :: undef :: undef :: undef :: (.pointer (some ⟨(γ1 0), 0, none⟩)) :: (nv 6 [x.re.val, x.im.val]) :: (nv 6 [x.re.val, x.im.val]) :: (.pointer (some ⟨(γ1 0), 0, none⟩)) :: (nv 6 [x.re.val, x.im.val]) :: (.bool false) :: (.bool false) :: (.pointer (some ⟨(γ1 0), 12, none⟩)) :: (nv 6 [y0, y1]) :: (nv 6 [c, d]) :: (.pointer (some ⟨(γ1 0), 12, none⟩)) :: (nv 6 [y0, y1]) :: (.bool true) :: (.bool true) :: undef :: undef :: undef :: undef :: undef :: undef :: undef :: undef :: undef :: undef :: undef :: undef :: undef :: undef :: undef :: undef :: undef :: undef :: undef :: []), []⟩) 0 (fun _ => 0) (fun _ => 0) (fun _ => 0) (fun _ => []) (fun _ => []) [2] (.inr ⟨rfl, by kernel_rfl⟩) (by kernel_rfl) rfl rfl rfl ?_ ?_)
  · refine GSteps.cons (gm_val (v := .bool false) rfl (fun _ => rfl) (fun _ => rfl) (fun γ w h => ex_assign _) rfl) ?_
    exact GSteps.nil
  intro _ w10 hb10 _ _
  refine th_r ?_
  have A11 := A8.keep hb10.out
  have HB12 := below_then HB9 hb10.out
  exact wp_ret (th_ret (bodyPost_ret (ret1 Try.results5 (res_tmp rfl)) rfl ⟨rfl, HB12⟩))

set_option maxRecDepth 20000 in
set_option maxHeartbeats 4000000 in
theorem r9Right_aff (x y : Zq) (r : Bool) (hr : r = true ↔ y * y = x * x * x + b2) (w : World) :
    Calls Try.prog 5 #[sv [.n 6 x.re.val, .n 6 x.im.val, .n 6 y.re.val, .n 6 y.im.val, .b false]] w (Is (.bool r) w) := by
  obtain ⟨z1, ez1⟩ : ∃ q_ : Zq, q_ = x * x := ⟨_, rfl⟩
  obtain ⟨z2, ez2⟩ : ∃ q_ : Zq, q_ = x * z1 := ⟨_, rfl⟩
  obtain ⟨z3, ez3⟩ : ∃ q_ : Zq, q_ = y * y := ⟨_, rfl⟩
  obtain ⟨z4, ez4⟩ : ∃ q_ : Zq, q_ = z2 + b2 := ⟨_, rfl⟩
  go_enter Try.func5, Try.ntmps5
  refine wp_seq (region_m (F := fun γ => ⟨List.toArray ((sv [.n 6 x.re.val, .n 6 x.im.val, .n 6 y.re.val, .n 6 y.im.val, .b false]) :: (.pointer (some ⟨γ 0, 0, none⟩)) :: (.bool false) :: undef :: undef :: undef :: undef :: undef :: undef :: undef :: undef :: undef :: undef :: undef :: undef :: undef :: undef :: undef :: undef :: undef :: undef :: undef :: undef :: undef :: undef :: undef :: undef :: undef :: undef :: undef :: undef :: undef :: undef :: undef :: undef :: undef :: undef :: undef :: undef :: undef :: undef :: undef :: []), []⟩) 1 (fun _ => 28) (fun _ => 0) (fun _ => 0) (fun _ => segs [.n 6 x.re.val, .n 6 x.im.val, .n 6 y.re.val, .n 6 y.im.val, .b false]) (fun _ => segs [.n 6 x.re.val, .n 6 x.im.val, .n 6 y.re.val, .n 6 y.im.val, .b false]) [1, 2] (.inr ⟨rfl, by kernel_rfl⟩) (by kernel_rfl) rfl rfl rfl ?_ ?_)
  · refine GSteps.cons (gm_box 0 rfl (fun _ => rfl) (fun _ _ => rfl) (fun γ w h => ex_boxs (l := [.n 6 x.re.val, .n 6 x.im.val, .n 6 y.re.val, .n 6 y.im.val, .b false]) rfl) rfl rfl rfl) ?_
    refine GSteps.cons (gm_val (v := .bool false) rfl (fun _ => rfl) (fun _ => rfl) (fun γ w h => ex_assign _) rfl) ?_
    exact GSteps.nil
  intro γ1 w1 hb1 hB1 _
  refine th_r ?_
  have A2 : SB 28 w1 (γ1 0) [.n 6 x.re.val, .n 6 x.im.val, .n 6 y.re.val, .n 6 y.im.val, .b false] := (hB1 0 (by decide)).2
  have le2 := (hB1 0 (by decide)).1
  have HB3 := below_then (Below.refl w.heap.size w) hb1.out
  refine wp_seq ?_
  refine wp_seq (region_m (F := fun _ => ⟨List.toArray ((sv [.n 6 x.re.val, .n 6 x.im.val, .n 6 y.re.val, .n 6 y.im.val, .b false]) :: (.pointer (some ⟨(γ1 0), 0, none⟩)) :: (.bool false) :: undef :: (.pointer (some ⟨(γ1 0), 24, none⟩)) :: (.bool false) :: undef :: undef :: undef :: undef :: undef :: undef :: undef :: undef :: undef :: undef :: undef :: undef :: undef :: undef :: undef :: undef :: undef :: undef :: undef :: undef :: undef :: undef :: undef :: undef :: undef :: undef :: undef :: undef :: undef :: undef :: undef :: undef :: undef :: undef :: undef :: undef :: []), []⟩) 0 (fun _ => 0) (fun _ => 0) (fun _ => 0) (fun _ => []) (fun _ => []) [4, 5] (.inr ⟨rfl, by kernel_rfl⟩) (by kernel_rfl) rfl rfl rfl ?_ ?_)
  · refine GSteps.cons (gm_valg (fun γ => .pointer (some ⟨(γ1 0), 24, none⟩)) rfl (fun _ => rfl) (fun _ => rfl) (fun γ w h => ex_field faG2_2 rfl) rfl) ?_
    refine GSteps.cons (gm_val (v := .bool false) rfl (fun _ => rfl) (fun _ => rfl) (fun γ w h => ex_load1 4 (s := .b false) (v := .bool false) sgBool rfl (A2.keep h.out) rfl rfl rfl) rfl) ?_
    exact GSteps.nil
  intro _ w4 hb4 _ _
  refine th_r ?_
  have A5 := A2.keep hb4.out
  have HB6 := below_then HB3 hb4.out
  refine wp_cond_false rfl ?_
  refine wp_skip ?_
  refine th_r ?_
  refine wp_seq ?_
  refine wp_seq (region_m (F := fun _ => ⟨List.toArray ((sv [.n 6 x.re.val, .n 6 x.im.val, .n 6 y.re.val, .n 6 y.im.val, .b false]) :: (.pointer (some ⟨(γ1 0), 0, none⟩)) :: (.bool false) :: undef :: (.pointer (some ⟨(γ1 0), 24, none⟩)) :: (.bool false) :: undef :: undef :: undef :: (.pointer (some ⟨(γ1 0), 0, none⟩)) :: (nv 6 [x.re.val, x.im.val]) :: (nv 6 [x.re.val, x.im.val]) :: (.pointer (some ⟨(γ1 0), 0, none⟩)) :: (nv 6 [x.re.val, x.im.val]) :: (.bool false) :: (.bool false) :: (.pointer (some ⟨(γ1 0), 12, none⟩)) :: (nv 6 [y.re.val, y.im.val]) :: (nv 6 [y.re.val, y.im.val]) :: (.pointer (some ⟨(γ1 0), 12, none⟩)) :: (nv 6 [y.re.val, y.im.val]) :: (.bool false) :: (.bool false) :: undef :: undef :: undef :: undef :: undef :: undef :: undef :: undef :: undef :: undef :: undef :: undef :: undef :: undef :: undef :: undef :: undef :: undef :: undef :: []), []⟩) 0 (fun _ => 0) (fun _ => 0) (fun _ => 0) (fun _ => []) (fun _ => []) [9, 10, 11, 12, 13, 14, 15, 16, 17, 18, 19, 20, 21, 22] (.inl ⟨rfl, by kernel_rfl⟩) (by kernel_rfl) rfl rfl rfl ?_ ?_)
  · refine GSteps.cons (gm_valg (fun γ => .pointer (some ⟨(γ1 0), 0, none⟩)) rfl (fun _ => rfl) (fun _ => rfl) (fun γ w h => ex_field faG2_0 rfl) rfl) ?_
    refine GSteps.cons (gm_val (v := nv 6 [x.re.val, x.im.val]) rfl (fun _ => rfl) (fun _ => rfl) (fun γ w h => ex_loadsn (K := 6) 0 2 (m := [x.re.val, x.im.val]) flFp2 rfl rfl (A5.keep h.out) rfl rfl) rfl) ?_
    refine GSteps.cons (gm_call (v := nv 6 [x.re.val, x.im.val]) rfl (fun _ => rfl) (fun _ => rfl) (fun γ w => ex_call (vs := [nv 6 [x.re.val, x.im.val]]) rfl Try.call13 rfl) (fun w h => r5Clean_z x rfl _) rfl) ?_
    refine GSteps.cons (gm_valg (fun γ => .pointer (some ⟨(γ1 0), 0, none⟩)) rfl (fun _ => rfl) (fun _ => rfl) (fun γ w h => ex_field faG2_0 rfl) rfl) ?_
    refine GSteps.cons (gm_val (v := nv 6 [x.re.val, x.im.val]) rfl (fun _ => rfl) (fun _ => rfl) (fun γ w h => ex_loadsn (K := 6) 0 2 (m := [x.re.val, x.im.val]) flFp2 rfl rfl (A5.keep h.out) rfl rfl) rfl) ?_
    refine GSteps.cons (gm_val (v := .bool false) rfl (fun _ => rfl) (fun _ => rfl) (fun γ w h => ex_neqt (K := 6) (l := [x.re.val, x.im.val]) eqFp2 rfl rfl rfl rfl) rfl) ?_
    refine GSteps.cons (gm_val (v := .bool false) rfl (fun _ => rfl) (fun _ => rfl) (fun γ w h => ex_move _) rfl) ?_
    refine GSteps.cons (gm_valg (fun γ => .pointer (some ⟨(γ1 0), 12, none⟩)) rfl (fun _ => rfl) (fun _ => rfl) (fun γ w h => ex_field faG2_1 rfl) rfl) ?_
    refine GSteps.cons (gm_val (v := nv 6 [y.re.val, y.im.val]) rfl (fun _ => rfl) (fun _ => rfl) (fun γ w h => ex_loadsn (K := 6) 2 2 (m := [y.re.val, y.im.val]) flFp2 rfl rfl (A5.keep h.out) rfl rfl) rfl) ?_
    refine GSteps.cons (gm_call (v := nv 6 [y.re.val, y.im.val]) rfl (fun _ => rfl) (fun _ => rfl) (fun γ w => ex_call (vs := [nv 6 [y.re.val, y.im.val]]) rfl Try.call13 rfl) (fun w h => r5Clean_z y rfl _) rfl) ?_
    refine GSteps.cons (gm_valg (fun γ => .pointer (some ⟨(γ1 0), 12, none⟩)) rfl (fun _ => rfl) (fun _ => rfl) (fun γ w h => ex_field faG2_1 rfl) rfl) ?_
    refine GSteps.cons (gm_val (v := nv 6 [y.re.val, y.im.val]) rfl (fun _ => rfl) (fun _ => rfl) (fun γ w h => ex_loadsn (K := 6) 2 2 (m := [y.re.val, y.im.val]) flFp2 rfl rfl (A5.keep h.out) rfl rfl) rfl) ?_
    refine GSteps.cons (gm_val (v := .bool false) rfl (fun _ => rfl) (fun _ => rfl) (fun γ w h => ex_neqt (K := 6) (l := [y.re.val, y.im.val]) eqFp2 rfl rfl rfl rfl) rfl) ?_
    refine GSteps.cons (gm_val (v := .bool false) rfl (fun _ => rfl) (fun _ => rfl) (fun γ w h => ex_pick (r := false) rfl) rfl) ?_
    exact GSteps.nil
  intro _ w7 hb7 _ _
  refine th_r ?_
  have A8 := A5.keep hb7.out
  have HB9 := below_then HB6 hb7.out
  refine wp_cond_false rfl ?_
  refine wp_skip ?_
  refine th_r ?_
  refine wp_seq (region_m (F := fun γ => ⟨List.toArray ((sv [.n 6 x.re.val, .n 6 x.im.val, .n 6 y.re.val, .n 6 y.im.val, .b false]) :: (.pointer (some ⟨(γ1 0), 0, none⟩)) :: (.bool false) :: (.pointer (some ⟨γ 0, 0, none⟩)) :: (.pointer (some ⟨(γ1 0), 24, none⟩)) :: (.bool false) :: undef :: undef :: undef :: (.pointer (some ⟨(γ1 0), 0, none⟩)) :: (nv 6 [x.re.val, x.im.val]) :: (nv 6 [x.re.val, x.im.val]) :: (.pointer (some ⟨(γ1 0), 0, none⟩)) :: (nv 6 [x.re.val, x.im.val]) :: (.bool false) :: (.bool false) :: (.pointer (some ⟨(γ1 0), 12, none⟩)) :: (nv 6 [y.re.val, y.im.val]) :: (nv 6 [y.re.val, y.im.val]) :: (.pointer (some ⟨(γ1 0), 12, none⟩)) :: (nv 6 [y.re.val, y.im.val]) :: (.bool false) :: (.bool false) :: (.pointer (some ⟨(γ1 0), 0, none⟩)) :: (nv 6 [x.re.val, x.im.val]) :: (.pointer (some ⟨(γ1 0), 0, none⟩)) :: (nv 6 [x.re.val, x.im.val]) :: (.pointer (some ⟨(γ1 0), 0, none⟩)) :: (nv 6 [x.re.val, x.im.val]) :: (nv 6 [z1.re.val, z1.im.val]) :: (nv 6 [z2.re.val, z2.im.val]) :: undef :: undef :: undef :: undef :: undef :: undef :: undef :: undef :: undef :: undef :: undef :: []), []⟩) 1 (fun _ => 26) (fun _ => 8) (fun _ => 9) (fun _ => segs [.n 6 0, .n 6 0]) (fun _ => segs [.n 6 z2.re.val, .n 6 z2.im.val]) [23, 24, 25, 26, 27, 28, 29, 30, 3] (.inl ⟨rfl, by kernel_rfl⟩) (by kernel_rfl) rfl rfl rfl ?_ ?_)
  · refine GSteps.cons (gm_valg (fun γ => .pointer (some ⟨(γ1 0), 0, none⟩)) rfl (fun _ => rfl) (fun _ => rfl) (fun γ w h => ex_field faG2_0 rfl) rfl) ?_
    refine GSteps.cons (gm_val (v := nv 6 [x.re.val, x.im.val]) rfl (fun _ => rfl) (fun _ => rfl) (fun γ w h => ex_loadsn (K := 6) 0 2 (m := [x.re.val, x.im.val]) flFp2 rfl rfl (A8.keep h.out) rfl rfl) rfl) ?_
    refine GSteps.cons (gm_valg (fun γ => .pointer (some ⟨(γ1 0), 0, none⟩)) rfl (fun _ => rfl) (fun _ => rfl) (fun γ w h => ex_field faG2_0 rfl) rfl) ?_
    refine GSteps.cons (gm_val (v := nv 6 [x.re.val, x.im.val]) rfl (fun _ => rfl) (fun _ => rfl) (fun γ w h => ex_loadsn (K := 6) 0 2 (m := [x.re.val, x.im.val]) flFp2 rfl rfl (A8.keep h.out) rfl rfl) rfl) ?_
    refine GSteps.cons (gm_valg (fun γ => .pointer (some ⟨(γ1 0), 0, none⟩)) rfl (fun _ => rfl) (fun _ => rfl) (fun γ w h => ex_field faG2_0 rfl) rfl) ?_
    refine GSteps.cons (gm_val (v := nv 6 [x.re.val, x.im.val]) rfl (fun _ => rfl) (fun _ => rfl) (fun γ w h => ex_loadsn (K := 6) 0 2 (m := [x.re.val, x.im.val]) flFp2 rfl rfl (A8.keep h.out) rfl rfl) rfl) ?_
    refine GSteps.cons (gm_call (v := nv 6 [z1.re.val, z1.im.val]) rfl (fun _ => rfl) (fun _ => rfl) (fun γ w => ex_call (vs := [nv 6 [x.re.val, x.im.val], nv 6 [x.re.val, x.im.val]]) rfl Try.call14 rfl) (fun w h => r5Mul_z x x z1 rfl rfl ez1 _) rfl) ?_
    refine GSteps.cons (gm_call (v := nv 6 [z2.re.val, z2.im.val]) rfl (fun _ => rfl) (fun _ => rfl) (fun γ w => ex_call (vs := [nv 6 [x.re.val, x.im.val], nv 6 [z1.re.val, z1.im.val]]) rfl Try.call14 rfl) (fun w h => r5Mul_z x z1 z2 rfl rfl ez2 _) rfl) ?_
    refine GSteps.cons (gm_new 0 rfl (fun _ => rfl) (fun _ _ => rfl) (fun γ w => ex_allocsn (K := 6) (l := [0, 0]) zFp2) rfl (by kernel_rfl)) ?_
    refine GSteps.cons (gm_store 0 rfl rfl (fun _ => rfl) (len_segs (l := [.n 6 z2.re.val, .n 6 z2.im.val]) (l' := [.n 6 0, .n 6 0]) rfl) (fun γ w h => ex_stores 0 2 (l := [.n 6 0, .n 6 0]) (m := [.n 6 z2.re.val, .n 6 z2.im.val]) flFp2.2 rfl rfl rfl (nv_cells 6 [z2.re.val, z2.im.val]) h rfl rfl) rfl rfl (by kernel_rfl)) ?_
    exact GSteps.nil
  intro γ10 w10 hb10 hB10 _
  refine th_r ?_
  have A11 := A8.keep hb10.out
  have A12 : SB 26 w10 (γ10 0) [.n 6 z2.re.val, .n 6 z2.im.val] := (hB10 0 (by decide)).2
  have le12 := (hB10 0 (by decide)).1
  have HB13 := below_then HB9 hb10.out
  refine wp_seq (region_m (F := fun _ => ⟨List.toArray ((sv [.n 6 x.re.val, .n 6 x.im.val, .n 6 y.re.val, .n 6 y.im.val, .b false]) :: (.pointer (some ⟨(γ1 0), 0, none⟩)) :: (.bool r) :: (.pointer (some ⟨(γ10 0), 0, none⟩)) :: (.pointer (some ⟨(γ1 0), 24, none⟩)) :: (.bool false) :: undef :: undef :: undef :: (.pointer (some ⟨(γ1 0), 0, none⟩)) :: (nv 6 [x.re.val, x.im.val]) :: (nv 6 [x.re.val, x.im.val]) :: (.pointer (some ⟨(γ1 0), 0, none⟩)) :: (nv 6 [x.re.val, x.im.val]) :: (.bool false) :: (.bool false) :: (.pointer (some ⟨(γ1 0), 12, none⟩)) :: (nv 6 [y.re.val, y.im.val]) :: (nv 6 [y.re.val, y.im.val]) :: (.pointer (some ⟨(γ1 0), 12, none⟩)) :: (nv 6 [y.re.val, y.im.val]) :: (.bool false) :: (.bool false) :: (.pointer (some ⟨(γ1 0), 0, none⟩)) :: (nv 6 [x.re.val, x.im.val]) :: (.pointer (some ⟨(γ1 0), 0, none⟩)) :: (nv 6 [x.re.val, x.im.val]) :: (.pointer (some ⟨(γ1 0), 0, none⟩)) :: (nv 6 [x.re.val, x.im.val]) :: (nv 6 [z1.re.val, z1.im.val]) :: (nv 6 [z2.re.val, z2.im.val]) :: (.pointer (some ⟨(γ1 0), 12, none⟩)) :: (nv 6 [y.re.val, y.im.val]) :: (.pointer (some ⟨(γ1 0), 12, none⟩)) :: (nv 6 [y.re.val, y.im.val]) :: (nv 6 [z3.re.val, z3.im.val]) :: (nv 6 [z2.re.val, z2.im.val]) :: (nv 6 [4]) :: (nv 6 [4]) :: (nv 6 [4, 4]) :: (nv 6 [z4.re.val, z4.im.val]) :: (.bool r) :: []), []⟩) 0 (fun _ => 0) (fun _ => 0) (fun _ => 0) (fun _ => []) (fun _ => []) [31, 32, 33, 34, 35, 36, 37, 38, 39, 40, 41, 2] (.inl ⟨rfl, by kernel_rfl⟩) (by kernel_rfl) rfl rfl rfl ?_ ?_)
  · refine GSteps.cons (gm_valg (fun γ => .pointer (some ⟨(γ1 0), 12, none⟩)) rfl (fun _ => rfl) (fun _ => rfl) (fun γ w h => ex_field faG2_1 rfl) rfl) ?_
    refine GSteps.cons (gm_val (v := nv 6 [y.re.val, y.im.val]) rfl (fun _ => rfl) (fun _ => rfl) (fun γ w h => ex_loadsn (K := 6) 2 2 (m := [y.re.val, y.im.val]) flFp2 rfl rfl (A11.keep h.out) rfl rfl) rfl) ?_
    refine GSteps.cons (gm_valg (fun γ => .pointer (some ⟨(γ1 0), 12, none⟩)) rfl (fun _ => rfl) (fun _ => rfl) (fun γ w h => ex_field faG2_1 rfl) rfl) ?_
    refine GSteps.cons (gm_val (v := nv 6 [y.re.val, y.im.val]) rfl (fun _ => rfl) (fun _ => rfl) (fun γ w h => ex_loadsn (K := 6) 2 2 (m := [y.re.val, y.im.val]) flFp2 rfl rfl (A11.keep h.out) rfl rfl) rfl) ?_
    refine GSteps.cons (gm_call (v := nv 6 [z3.re.val, z3.im.val]) rfl (fun _ => rfl) (fun _ => rfl) (fun γ w => ex_call (vs := [nv 6 [y.re.val, y.im.val], nv 6 [y.re.val, y.im.val]]) rfl Try.call14 rfl) (fun w h => r5Mul_z y y z3 rfl rfl ez3 _) rfl) ?_
    refine GSteps.cons (gm_val (v := nv 6 [z2.re.val, z2.im.val]) rfl (fun _ => rfl) (fun _ => rfl) (fun γ w h => ex_loadsn (K := 6) 0 2 (m := [z2.re.val, z2.im.val]) flFp2 rfl rfl (A12.keep h.out) rfl rfl) rfl) ?_
    refine GSteps.cons (gm_val (v := nv 6 [4]) rfl (fun _ => rfl) (fun _ => rfl) (fun γ w h => ex_limb6 (e := 4) (by decide) rfl) rfl) ?_
    refine GSteps.cons (gm_val (v := nv 6 [4]) rfl (fun _ => rfl) (fun _ => rfl) (fun γ w h => ex_limb6 (e := 4) (by decide) rfl) rfl) ?_
    refine GSteps.cons (gm_val (v := nv 6 [4, 4]) rfl (fun _ => rfl) (fun _ => rfl) (fun γ w h => ex_build stFp2 (vs := [(0, nv 6 [4]), (1, nv 6 [4])]) rfl (bdAB 4 4)) rfl) ?_
    refine GSteps.cons (gm_call (v := nv 6 [z4.re.val, z4.im.val]) rfl (fun _ => rfl) (fun _ => rfl) (fun γ w => ex_call (vs := [nv 6 [z2.re.val, z2.im.val], nv 6 [4, 4]]) rfl Try.call15 rfl) (fun w h => r5Add_z z2 b2 z4 rfl qc44 ez4 _) rfl) ?_
    refine GSteps.cons (gm_val (v := .bool r) rfl (fun _ => rfl) (fun _ => rfl) (fun γ w h => ex_eqzq z3 z4 rfl rfl rfl rfl r (by subst ez4 ez3 ez2 ez1; rw [hr]; clear hr; generalize b2 = c_; constructor <;> intro h <;> grind)) rfl) ?_
    refine GSteps.cons (gm_val (v := .bool r) rfl (fun _ => rfl) (fun _ => rfl) (fun γ w h => ex_assign _) rfl) ?_
    exact GSteps.nil
  intro _ w14 hb14 _ _
  refine th_r ?_
  have A15 := A11.keep hb14.out
  have A16 := A12.keep hb14.out
  have HB17 := below_then HB13 hb14.out
  exact wp_ret (bodyPost_ret (ret1 Try.results5 (res_tmp rfl)) rfl ⟨rfl, HB17⟩)

/-- These numbers are a point that may be. -/
def RawOk2 (x0 x1 y0 y1 : Nat) (i : Bool) : Prop := ∃ P : E2, x0 = bx0 P.pt ∧ x1 = bx1 P.pt ∧ y0 = by0 P.pt ∧ y1 = by1 P.pt ∧ i = bi P.pt

theorem twoRight_p (P : E2) (w : World) : Calls Try.prog 7 #[sv [.n 6 (bx0 P.pt), .n 6 (bx1 P.pt), .n 6 (by0 P.pt), .n 6 (by1 P.pt), .b (bi P.pt)]] w (Is (.bool true) w) := by
  obtain ⟨P, hP⟩ := P
  cases P with
  | inf => exact twoRight_inf w
  | aff x y => exact twoRight_aff x y true ⟨fun _ => hP, fun _ => rfl⟩ w
theorem r9Right_p (P : E2) (w : World) : Calls Try.prog 5 #[sv [.n 6 (bx0 P.pt), .n 6 (bx1 P.pt), .n 6 (by0 P.pt), .n 6 (by1 P.pt), .b (bi P.pt)]] w (Is (.bool true) w) := by
  obtain ⟨P, hP⟩ := P
  cases P with
  | inf => exact r9Right_inf w
  | aff x y => exact r9Right_aff x y true ⟨fun _ => hP, fun _ => rfl⟩ w
theorem r9Right_no {x0 x1 y0 y1 : Nat} {i : Bool} (hx0 : x0 < fpB) (hx1 : x1 < fpB) (hy0 : y0 < fpB) (hy1 : y1 < fpB) (h : ¬ RawOk2 x0 x1 y0 y1 i) (w : World) : Calls Try.prog 5 #[sv [.n 6 x0, .n 6 x1, .n 6 y0, .n 6 y1, .b i]] w (Is (.bool false) w) := by
  cases i with
  | true => exact r9Right_rawinf x0 x1 y0 y1 hx0 hx1 hy0 hy1 (fun e => h ⟨EP.zero, e.1, e.2.1, e.2.2.1, e.2.2.2, rfl⟩) w
  | false =>
    by_cases h1 : x0 < pN ∧ x1 < pN
    · by_cases h2 : y0 < pN ∧ y1 < pN
      · exact r9Right_aff ⟨⟨x0, h1.1⟩, ⟨x1, h1.2⟩⟩ ⟨⟨y0, h2.1⟩, ⟨y1, h2.2⟩⟩ false ⟨fun e => Bool.noConfusion e, fun e => absurd ⟨⟨.aff ⟨⟨x0, h1.1⟩, ⟨x1, h1.2⟩⟩ ⟨⟨y0, h2.1⟩, ⟨y1, h2.2⟩⟩, e⟩, rfl, rfl, rfl, rfl, rfl⟩ h⟩ w
      · exact r9Right_rawy ⟨⟨x0, h1.1⟩, ⟨x1, h1.2⟩⟩ y0 y1 hy0 hy1 h2 w
    · exact r9Right_rawx x0 x1 y0 y1 hx0 hx1 h1 w

set_option maxRecDepth 20000 in
set_option maxHeartbeats 4000000 in
theorem twojoined_p (P Q R : E2) (hs : P.add C2 Q = R) (w : World) :
    Calls Try.prog 36 #[sv [.n 6 (bx0 P.pt), .n 6 (bx1 P.pt), .n 6 (by0 P.pt), .n 6 (by1 P.pt), .b (bi P.pt)], sv [.n 6 (bx0 Q.pt), .n 6 (bx1 Q.pt), .n 6 (by0 Q.pt), .n 6 (by1 Q.pt), .b (bi Q.pt)], .func (.func 37) #[] #[]] w (Is (.tuple #[sv [.n 6 (bx0 R.pt), .n 6 (bx1 R.pt), .n 6 (by0 R.pt), .n 6 (by1 R.pt), .b (bi R.pt)], .int .i64 0]) w) := by
  obtain ⟨u, hu⟩ : ∃ u, u = plusT b6 (twoTri P.pt) (twoTri Q.pt) := ⟨_, rfl⟩
  have hR : u.Is R.pt := by
    rw [hu, ← hs, b6_is]
    exact plus_ok FdQ hN2 P.on Q.on (twoTri_is _) (twoTri_is _) (EP.sum C2 P Q)
  go_enter Try.func36, Try.ntmps36
  refine wp_seq (region_m (F := fun γ => ⟨#[sv [.n 6 (bx0 P.pt), .n 6 (bx1 P.pt), .n 6 (by0 P.pt), .n 6 (by1 P.pt), .b (bi P.pt)], sv [.n 6 (bx0 Q.pt), .n 6 (bx1 Q.pt), .n 6 (by0 Q.pt), .n 6 (by1 Q.pt), .b (bi Q.pt)], .func (.func 37) #[] #[], .pointer (some ⟨γ 0, 0, none⟩), .pointer (some ⟨γ 1, 0, none⟩), undef, .pointer (some ⟨γ 2, 0, none⟩), .int .i64 0, undef, undef, undef, undef, undef, undef, undef, undef, undef, undef, undef, undef, undef, undef, undef, undef], []⟩) 3 (fun j_ => match j_ with | 0 => 28 | 1 => 28 | _ => 28) (fun j_ => match j_ with | 0 => 0 | 1 => 1 | _ => 2) (fun j_ => match j_ with | 0 => 0 | 1 => 1 | _ => 2) (fun j_ => match j_ with | 0 => segs [.n 6 (bx0 P.pt), .n 6 (bx1 P.pt), .n 6 (by0 P.pt), .n 6 (by1 P.pt), .b (bi P.pt)] | 1 => segs [.n 6 (bx0 Q.pt), .n 6 (bx1 Q.pt), .n 6 (by0 Q.pt), .n 6 (by1 Q.pt), .b (bi Q.pt)] | _ => segs [.n 6 0, .n 6 0, .n 6 0, .n 6 0, .b false]) (fun j_ => match j_ with | 0 => segs [.n 6 (bx0 P.pt), .n 6 (bx1 P.pt), .n 6 (by0 P.pt), .n 6 (by1 P.pt), .b (bi P.pt)] | 1 => segs [.n 6 (bx0 Q.pt), .n 6 (bx1 Q.pt), .n 6 (by0 Q.pt), .n 6 (by1 Q.pt), .b (bi Q.pt)] | _ => segs [.n 6 0, .n 6 0, .n 6 0, .n 6 0, .b false]) [3, 4, 6, 7] (.inr ⟨rfl, by kernel_rfl⟩) (by kernel_rfl) rfl rfl rfl ?_ ?_)
  · refine GSteps.cons (gm_box 0 rfl (fun _ => rfl) (fun _ _ => rfl) (fun γ w h => ex_boxs (l := [.n 6 (bx0 P.pt), .n 6 (bx1 P.pt), .n 6 (by0 P.pt), .n 6 (by1 P.pt), .b (bi P.pt)]) rfl) rfl rfl rfl) ?_
    refine GSteps.cons (gm_box 1 rfl (fun _ => rfl) (fun _ _ => rfl) (fun γ w h => ex_boxs (l := [.n 6 (bx0 Q.pt), .n 6 (bx1 Q.pt), .n 6 (by0 Q.pt), .n 6 (by1 Q.pt), .b (bi Q.pt)]) rfl) rfl rfl rfl) ?_
    refine GSteps.cons (gm_box 2 rfl (fun _ => rfl) (fun _ _ => rfl) (fun γ w h => ex_allocs (l := [.n 6 0, .n 6 0, .n 6 0, .n 6 0, .b false]) zG2) rfl rfl rfl) ?_
    refine GSteps.cons (gm_val (v := .int .i64 0) rfl (fun _ => rfl) (fun _ => rfl) (fun γ w h => ex_assign _) rfl) ?_
    exact GSteps.nil
  intro γ1 w1 hb1 hB1 hn1
  refine th_r ?_
  have A2 : SB 28 w1 (γ1 0) [.n 6 (bx0 P.pt), .n 6 (bx1 P.pt), .n 6 (by0 P.pt), .n 6 (by1 P.pt), .b (bi P.pt)] := (hB1 0 (by decide)).2
  have le2 := (hB1 0 (by decide)).1
  have A3 : SB 28 w1 (γ1 1) [.n 6 (bx0 Q.pt), .n 6 (bx1 Q.pt), .n 6 (by0 Q.pt), .n 6 (by1 Q.pt), .b (bi Q.pt)] := (hB1 1 (by decide)).2
  have le3 := (hB1 1 (by decide)).1
  have A4 : SB 28 w1 (γ1 2) [.n 6 0, .n 6 0, .n 6 0, .n 6 0, .b false] := (hB1 2 (by decide)).2
  have le4 := (hB1 2 (by decide)).1
  have HB5 := below_then (Below.refl w.heap.size w) hb1.out
  refine wp_seq ?_
  refine wp_seq (region_m (F := fun _ => ⟨#[sv [.n 6 (bx0 P.pt), .n 6 (bx1 P.pt), .n 6 (by0 P.pt), .n 6 (by1 P.pt), .b (bi P.pt)], sv [.n 6 (bx0 Q.pt), .n 6 (bx1 Q.pt), .n 6 (by0 Q.pt), .n 6 (by1 Q.pt), .b (bi Q.pt)], .func (.func 37) #[] #[], .pointer (some ⟨(γ1 0), 0, none⟩), .pointer (some ⟨(γ1 1), 0, none⟩), undef, .pointer (some ⟨(γ1 2), 0, none⟩), .int .i64 0, sv [.n 6 (bx0 P.pt), .n 6 (bx1 P.pt), .n 6 (by0 P.pt), .n 6 (by1 P.pt), .b (bi P.pt)], .bool true, .bool false, .bool false, sv [.n 6 (bx0 Q.pt), .n 6 (bx1 Q.pt), .n 6 (by0 Q.pt), .n 6 (by1 Q.pt), .b (bi Q.pt)], .bool true, .bool false, .bool false, undef, undef, undef, undef, undef, undef, undef, undef], []⟩) 0 (fun _ => 0) (fun _ => 0) (fun _ => 0) (fun _ => []) (fun _ => []) [8, 9, 10, 11, 12, 13, 14, 15] (.inr ⟨rfl, by kernel_rfl⟩) (by kernel_rfl) rfl rfl rfl ?_ ?_)
  · refine GSteps.cons (gm_val (v := sv [.n 6 (bx0 P.pt), .n 6 (bx1 P.pt), .n 6 (by0 P.pt), .n 6 (by1 P.pt), .b (bi P.pt)]) rfl (fun _ => rfl) (fun _ => rfl) (fun γ w h => ex_loads 0 5 (m := [.n 6 (bx0 P.pt), .n 6 (bx1 P.pt), .n 6 (by0 P.pt), .n 6 (by1 P.pt), .b (bi P.pt)]) flG2 rfl rfl (A2.keep h.out) rfl rfl) rfl) ?_
    refine GSteps.cons (gm_call (v := .bool true) rfl (fun _ => rfl) (fun _ => rfl) (fun γ w => ex_call (vs := [sv [.n 6 (bx0 P.pt), .n 6 (bx1 P.pt), .n 6 (by0 P.pt), .n 6 (by1 P.pt), .b (bi P.pt)]]) rfl Try.call7 rfl) (fun w h => twoRight_p P _) rfl) ?_
    refine GSteps.cons (gm_val (v := .bool false) rfl (fun _ => rfl) (fun _ => rfl) (fun γ w h => ex_not (r := true) rfl) rfl) ?_
    refine GSteps.cons (gm_val (v := .bool false) rfl (fun _ => rfl) (fun _ => rfl) (fun γ w h => ex_move _) rfl) ?_
    refine GSteps.cons (gm_val (v := sv [.n 6 (bx0 Q.pt), .n 6 (bx1 Q.pt), .n 6 (by0 Q.pt), .n 6 (by1 Q.pt), .b (bi Q.pt)]) rfl (fun _ => rfl) (fun _ => rfl) (fun γ w h => ex_loads 0 5 (m := [.n 6 (bx0 Q.pt), .n 6 (bx1 Q.pt), .n 6 (by0 Q.pt), .n 6 (by1 Q.pt), .b (bi Q.pt)]) flG2 rfl rfl (A3.keep h.out) rfl rfl) rfl) ?_
    refine GSteps.cons (gm_call (v := .bool true) rfl (fun _ => rfl) (fun _ => rfl) (fun γ w => ex_call (vs := [sv [.n 6 (bx0 Q.pt), .n 6 (bx1 Q.pt), .n 6 (by0 Q.pt), .n 6 (by1 Q.pt), .b (bi Q.pt)]]) rfl Try.call7 rfl) (fun w h => twoRight_p Q _) rfl) ?_
    refine GSteps.cons (gm_val (v := .bool false) rfl (fun _ => rfl) (fun _ => rfl) (fun γ w h => ex_not (r := true) rfl) rfl) ?_
    refine GSteps.cons (gm_val (v := .bool false) rfl (fun _ => rfl) (fun _ => rfl) (fun γ w h => ex_pick (r := false) rfl) rfl) ?_
    exact GSteps.nil
  intro _ w6 hb6 _ _
  refine th_r ?_
  have A7 := A2.keep hb6.out
  have A8 := A3.keep hb6.out
  have A9 := A4.keep hb6.out
  have HB10 := below_then HB5 hb6.out
  refine wp_cond_false rfl ?_
  refine wp_skip ?_
  refine th_r ?_
  refine wp_seq (region_ms (F := fun _ => ⟨#[sv [.n 6 (bx0 P.pt), .n 6 (bx1 P.pt), .n 6 (by0 P.pt), .n 6 (by1 P.pt), .b (bi P.pt)], sv [.n 6 (bx0 Q.pt), .n 6 (bx1 Q.pt), .n 6 (by0 Q.pt), .n 6 (by1 Q.pt), .b (bi Q.pt)], .func (.func 37) #[] #[], .pointer (some ⟨(γ1 0), 0, none⟩), .pointer (some ⟨(γ1 1), 0, none⟩), undef, .pointer (some ⟨(γ1 2), 0, none⟩), .int .i64 0, sv [.n 6 (bx0 P.pt), .n 6 (bx1 P.pt), .n 6 (by0 P.pt), .n 6 (by1 P.pt), .b (bi P.pt)], .bool true, .bool false, .bool false, sv [.n 6 (bx0 Q.pt), .n 6 (bx1 Q.pt), .n 6 (by0 Q.pt), .n 6 (by1 Q.pt), .b (bi Q.pt)], .bool true, .bool false, .bool false, undef, .func (.func 37) #[] #[], sv [.n 6 (bx0 P.pt), .n 6 (bx1 P.pt), .n 6 (by0 P.pt), .n 6 (by1 P.pt), .b (bi P.pt)], sv [.n 6 (((twoTri P.pt).x).re.val), .n 6 (((twoTri P.pt).x).im.val), .n 6 (((twoTri P.pt).y).re.val), .n 6 (((twoTri P.pt).y).im.val), .n 6 (((twoTri P.pt).z).re.val), .n 6 (((twoTri P.pt).z).im.val)], sv [.n 6 (bx0 Q.pt), .n 6 (bx1 Q.pt), .n 6 (by0 Q.pt), .n 6 (by1 Q.pt), .b (bi Q.pt)], sv [.n 6 (((twoTri Q.pt).x).re.val), .n 6 (((twoTri Q.pt).x).im.val), .n 6 (((twoTri Q.pt).y).re.val), .n 6 (((twoTri Q.pt).y).im.val), .n 6 (((twoTri Q.pt).z).re.val), .n 6 (((twoTri Q.pt).z).im.val)], sv [.n 6 u.x.re.val, .n 6 u.x.im.val, .n 6 u.y.re.val, .n 6 u.y.im.val, .n 6 u.z.re.val, .n 6 u.z.im.val], sv [.n 6 (bx0 R.pt), .n 6 (bx1 R.pt), .n 6 (by0 R.pt), .n 6 (by1 R.pt), .b (bi R.pt)]], []⟩) 7 ((γ1 2)) 0 (segs [.n 6 (bx0 R.pt), .n 6 (bx1 R.pt), .n 6 (by0 R.pt), .n 6 (by1 R.pt), .b (bi R.pt)]) 0 (fun _ => 0) (fun _ => 0) (fun _ => 0) (fun _ => []) (fun _ => []) [17, 18, 19, 20, 21, 22, 23, 7] (.inl ⟨rfl, by kernel_rfl⟩) (by kernel_rfl) rfl rfl rfl ?_ ?_)
  · refine GSteps.cons (late_step (gm_val (v := .func (.func 37) #[] #[]) rfl (fun _ => rfl) (fun _ => rfl) (fun γ w h => ex_move _) rfl) (by kernel_rfl) rfl) ?_
    refine GSteps.cons (late_step (gm_val (v := sv [.n 6 (bx0 P.pt), .n 6 (bx1 P.pt), .n 6 (by0 P.pt), .n 6 (by1 P.pt), .b (bi P.pt)]) rfl (fun _ => rfl) (fun _ => rfl) (fun γ w h => ex_loads 0 5 (m := [.n 6 (bx0 P.pt), .n 6 (bx1 P.pt), .n 6 (by0 P.pt), .n 6 (by1 P.pt), .b (bi P.pt)]) flG2 rfl rfl (A7.keep h.out) rfl rfl) rfl) (by kernel_rfl) rfl) ?_
    refine GSteps.cons (late_step (gm_call (v := sv [.n 6 (((twoTri P.pt).x).re.val), .n 6 (((twoTri P.pt).x).im.val), .n 6 (((twoTri P.pt).y).re.val), .n 6 (((twoTri P.pt).y).im.val), .n 6 (((twoTri P.pt).z).re.val), .n 6 (((twoTri P.pt).z).im.val)]) rfl (fun _ => rfl) (fun _ => rfl) (fun γ w => ex_call (vs := [sv [.n 6 (bx0 P.pt), .n 6 (bx1 P.pt), .n 6 (by0 P.pt), .n 6 (by1 P.pt), .b (bi P.pt)]]) rfl Try.call31 rfl) (fun w h => twobring_q P.pt _) rfl) (by kernel_rfl) rfl) ?_
    refine GSteps.cons (late_step (gm_val (v := sv [.n 6 (bx0 Q.pt), .n 6 (bx1 Q.pt), .n 6 (by0 Q.pt), .n 6 (by1 Q.pt), .b (bi Q.pt)]) rfl (fun _ => rfl) (fun _ => rfl) (fun γ w h => ex_loads 0 5 (m := [.n 6 (bx0 Q.pt), .n 6 (bx1 Q.pt), .n 6 (by0 Q.pt), .n 6 (by1 Q.pt), .b (bi Q.pt)]) flG2 rfl rfl (A8.keep h.out) rfl rfl) rfl) (by kernel_rfl) rfl) ?_
    refine GSteps.cons (late_step (gm_call (v := sv [.n 6 (((twoTri Q.pt).x).re.val), .n 6 (((twoTri Q.pt).x).im.val), .n 6 (((twoTri Q.pt).y).re.val), .n 6 (((twoTri Q.pt).y).im.val), .n 6 (((twoTri Q.pt).z).re.val), .n 6 (((twoTri Q.pt).z).im.val)]) rfl (fun _ => rfl) (fun _ => rfl) (fun γ w => ex_call (vs := [sv [.n 6 (bx0 Q.pt), .n 6 (bx1 Q.pt), .n 6 (by0 Q.pt), .n 6 (by1 Q.pt), .b (bi Q.pt)]]) rfl Try.call31 rfl) (fun w h => twobring_q Q.pt _) rfl) (by kernel_rfl) rfl) ?_
    refine GSteps.cons (late_step (gm_call (v := sv [.n 6 u.x.re.val, .n 6 u.x.im.val, .n 6 u.y.re.val, .n 6 u.y.im.val, .n 6 u.z.re.val, .n 6 u.z.im.val]) rfl (fun _ => rfl) (fun _ => rfl) (fun γ w => ex_call (vs := [sv [.n 6 (((twoTri P.pt).x).re.val), .n 6 (((twoTri P.pt).x).im.val), .n 6 (((twoTri P.pt).y).re.val), .n 6 (((twoTri P.pt).y).im.val), .n 6 (((twoTri P.pt).z).re.val), .n 6 (((twoTri P.pt).z).im.val)], sv [.n 6 (((twoTri Q.pt).x).re.val), .n 6 (((twoTri Q.pt).x).im.val), .n 6 (((twoTri Q.pt).y).re.val), .n 6 (((twoTri Q.pt).y).im.val), .n 6 (((twoTri Q.pt).z).re.val), .n 6 (((twoTri Q.pt).z).im.val)]]) rfl Try.call37 rfl) (fun w h => twoplus_q hu _) rfl) (by kernel_rfl) rfl) ?_
    refine GSteps.cons (late_step (gm_call (v := sv [.n 6 (bx0 R.pt), .n 6 (bx1 R.pt), .n 6 (by0 R.pt), .n 6 (by1 R.pt), .b (bi R.pt)]) rfl (fun _ => rfl) (fun _ => rfl) (fun γ w => ex_call (vs := [sv [.n 6 u.x.re.val, .n 6 u.x.im.val, .n 6 u.y.re.val, .n 6 u.y.im.val, .n 6 u.z.re.val, .n 6 u.z.im.val]]) rfl Try.call33 rfl) (fun w h => twoback_q hR _) rfl) (by kernel_rfl) rfl) ?_
    refine GSteps.cons (late_store rfl (fun _ => rfl) (fun γ w h => ex_stores 0 5 (l := [.n 6 0, .n 6 0, .n 6 0, .n 6 0, .b false]) (m := [.n 6 (bx0 R.pt), .n 6 (bx1 R.pt), .n 6 (by0 R.pt), .n 6 (by1 R.pt), .b (bi R.pt)]) flG2.2 rfl rfl rfl rfl (A9.keep h.out) rfl rfl) rfl) ?_
    refine GSteps.cons (late_free (v := .int .i64 0) rfl (fun _ => rfl) (fun _ => rfl) (fun γ w => ex_assign _) rfl rfl) ?_
    exact GSteps.nil
  intro _ w11 w11_ hb11 _ _ hs11
  refine th_r ?_
  have A12 := A7.keep hb11.out
  have A13 := A8.keep hb11.out
  have A14 := A9.keep hb11.out
  have HB15 := below_then HB10 hb11.out
  have A16 := hs11.other (hn1 0 2 (by decide) (by decide) (by decide)) A12
  have A17 := hs11.other (hn1 1 2 (by decide) (by decide) (by decide)) A13
  have A18 := hs11.here 0 5 (l' := [.n 6 (bx0 R.pt), .n 6 (bx1 R.pt), .n 6 (by0 R.pt), .n 6 (by1 R.pt), .b (bi R.pt)]) A14 rfl rfl rfl
  have HB19 := hs11.below HB15 (Nat.le_trans (Nat.le_refl _) le4)
  exact wp_ret (bodyPost_ret (ret2 Try.results36 (res_sv rfl A18 flG2 rfl) (res_tmp rfl)) rfl ⟨rfl, HB19⟩)

set_option maxRecDepth 20000 in
set_option maxHeartbeats 4000000 in
theorem twoAdd_p (P Q R : E2) (hs : P.add C2 Q = R) (w : World) :
    Calls Try.prog 22 #[sv [.n 6 (bx0 P.pt), .n 6 (bx1 P.pt), .n 6 (by0 P.pt), .n 6 (by1 P.pt), .b (bi P.pt)], sv [.n 6 (bx0 Q.pt), .n 6 (bx1 Q.pt), .n 6 (by0 Q.pt), .n 6 (by1 Q.pt), .b (bi Q.pt)]] w (Is (.tuple #[sv [.n 6 (bx0 R.pt), .n 6 (bx1 R.pt), .n 6 (by0 R.pt), .n 6 (by1 R.pt), .b (bi R.pt)], .int .i64 0]) w) := by
  go_enter Try.func22, Try.ntmps22
  refine wp_seq (region_m (F := fun γ => ⟨#[sv [.n 6 (bx0 P.pt), .n 6 (bx1 P.pt), .n 6 (by0 P.pt), .n 6 (by1 P.pt), .b (bi P.pt)], sv [.n 6 (bx0 Q.pt), .n 6 (bx1 Q.pt), .n 6 (by0 Q.pt), .n 6 (by1 Q.pt), .b (bi Q.pt)], .pointer (some ⟨γ 0, 0, none⟩), .pointer (some ⟨γ 1, 0, none⟩), .pointer (some ⟨γ 2, 0, none⟩), .int .i64 0, undef, undef, undef, undef, undef], []⟩) 3 (fun j_ => match j_ with | 0 => 28 | 1 => 28 | _ => 28) (fun j_ => match j_ with | 0 => 0 | 1 => 1 | _ => 2) (fun j_ => match j_ with | 0 => 0 | 1 => 1 | _ => 2) (fun j_ => match j_ with | 0 => segs [.n 6 (bx0 P.pt), .n 6 (bx1 P.pt), .n 6 (by0 P.pt), .n 6 (by1 P.pt), .b (bi P.pt)] | 1 => segs [.n 6 (bx0 Q.pt), .n 6 (bx1 Q.pt), .n 6 (by0 Q.pt), .n 6 (by1 Q.pt), .b (bi Q.pt)] | _ => segs [.n 6 0, .n 6 0, .n 6 0, .n 6 0, .b false]) (fun j_ => match j_ with | 0 => segs [.n 6 (bx0 P.pt), .n 6 (bx1 P.pt), .n 6 (by0 P.pt), .n 6 (by1 P.pt), .b (bi P.pt)] | 1 => segs [.n 6 (bx0 Q.pt), .n 6 (bx1 Q.pt), .n 6 (by0 Q.pt), .n 6 (by1 Q.pt), .b (bi Q.pt)] | _ => segs [.n 6 0, .n 6 0, .n 6 0, .n 6 0, .b false]) [2, 3, 4, 5] (.inr ⟨rfl, by kernel_rfl⟩) (by kernel_rfl) rfl rfl rfl ?_ ?_)
  · refine GSteps.cons (gm_box 0 rfl (fun _ => rfl) (fun _ _ => rfl) (fun γ w h => ex_boxs (l := [.n 6 (bx0 P.pt), .n 6 (bx1 P.pt), .n 6 (by0 P.pt), .n 6 (by1 P.pt), .b (bi P.pt)]) rfl) rfl rfl rfl) ?_
    refine GSteps.cons (gm_box 1 rfl (fun _ => rfl) (fun _ _ => rfl) (fun γ w h => ex_boxs (l := [.n 6 (bx0 Q.pt), .n 6 (bx1 Q.pt), .n 6 (by0 Q.pt), .n 6 (by1 Q.pt), .b (bi Q.pt)]) rfl) rfl rfl rfl) ?_
    refine GSteps.cons (gm_box 2 rfl (fun _ => rfl) (fun _ _ => rfl) (fun γ w h => ex_allocs (l := [.n 6 0, .n 6 0, .n 6 0, .n 6 0, .b false]) zG2) rfl rfl rfl) ?_
    refine GSteps.cons (gm_val (v := .int .i64 0) rfl (fun _ => rfl) (fun _ => rfl) (fun γ w h => ex_assign _) rfl) ?_
    exact GSteps.nil
  intro γ1 w1 hb1 hB1 hn1
  refine th_r ?_
  have A2 : SB 28 w1 (γ1 0) [.n 6 (bx0 P.pt), .n 6 (bx1 P.pt), .n 6 (by0 P.pt), .n 6 (by1 P.pt), .b (bi P.pt)] := (hB1 0 (by decide)).2
  have le2 := (hB1 0 (by decide)).1
  have A3 : SB 28 w1 (γ1 1) [.n 6 (bx0 Q.pt), .n 6 (bx1 Q.pt), .n 6 (by0 Q.pt), .n 6 (by1 Q.pt), .b (bi Q.pt)] := (hB1 1 (by decide)).2
  have le3 := (hB1 1 (by decide)).1
  have A4 : SB 28 w1 (γ1 2) [.n 6 0, .n 6 0, .n 6 0, .n 6 0, .b false] := (hB1 2 (by decide)).2
  have le4 := (hB1 2 (by decide)).1
  have HB5 := below_then (Below.refl w.heap.size w) hb1.out
  refine wp_seq (region_ms (F := fun _ => ⟨#[sv [.n 6 (bx0 P.pt), .n 6 (bx1 P.pt), .n 6 (by0 P.pt), .n 6 (by1 P.pt), .b (bi P.pt)], sv [.n 6 (bx0 Q.pt), .n 6 (bx1 Q.pt), .n 6 (by0 Q.pt), .n 6 (by1 Q.pt), .b (bi Q.pt)], .pointer (some ⟨(γ1 0), 0, none⟩), .pointer (some ⟨(γ1 1), 0, none⟩), .pointer (some ⟨(γ1 2), 0, none⟩), .int .i64 0, sv [.n 6 (bx0 P.pt), .n 6 (bx1 P.pt), .n 6 (by0 P.pt), .n 6 (by1 P.pt), .b (bi P.pt)], sv [.n 6 (bx0 Q.pt), .n 6 (bx1 Q.pt), .n 6 (by0 Q.pt), .n 6 (by1 Q.pt), .b (bi Q.pt)], .tuple #[sv [.n 6 (bx0 R.pt), .n 6 (bx1 R.pt), .n 6 (by0 R.pt), .n 6 (by1 R.pt), .b (bi R.pt)], .int .i64 0], sv [.n 6 (bx0 R.pt), .n 6 (bx1 R.pt), .n 6 (by0 R.pt), .n 6 (by1 R.pt), .b (bi R.pt)], .int .i64 0], []⟩) 5 ((γ1 2)) 0 (segs [.n 6 (bx0 R.pt), .n 6 (bx1 R.pt), .n 6 (by0 R.pt), .n 6 (by1 R.pt), .b (bi R.pt)]) 0 (fun _ => 0) (fun _ => 0) (fun _ => 0) (fun _ => []) (fun _ => []) [6, 7, 8, 9, 10, 5] (.inr ⟨rfl, by kernel_rfl⟩) (by kernel_rfl) rfl rfl rfl ?_ ?_)
  · refine GSteps.cons (late_step (gm_val (v := sv [.n 6 (bx0 P.pt), .n 6 (bx1 P.pt), .n 6 (by0 P.pt), .n 6 (by1 P.pt), .b (bi P.pt)]) rfl (fun _ => rfl) (fun _ => rfl) (fun γ w h => ex_loads 0 5 (m := [.n 6 (bx0 P.pt), .n 6 (bx1 P.pt), .n 6 (by0 P.pt), .n 6 (by1 P.pt), .b (bi P.pt)]) flG2 rfl rfl (A2.keep h.out) rfl rfl) rfl) (by kernel_rfl) rfl) ?_
    refine GSteps.cons (late_step (gm_val (v := sv [.n 6 (bx0 Q.pt), .n 6 (bx1 Q.pt), .n 6 (by0 Q.pt), .n 6 (by1 Q.pt), .b (bi Q.pt)]) rfl (fun _ => rfl) (fun _ => rfl) (fun γ w h => ex_loads 0 5 (m := [.n 6 (bx0 Q.pt), .n 6 (bx1 Q.pt), .n 6 (by0 Q.pt), .n 6 (by1 Q.pt), .b (bi Q.pt)]) flG2 rfl rfl (A3.keep h.out) rfl rfl) rfl) (by kernel_rfl) rfl) ?_
    refine GSteps.cons (late_step (gm_call (v := .tuple #[sv [.n 6 (bx0 R.pt), .n 6 (bx1 R.pt), .n 6 (by0 R.pt), .n 6 (by1 R.pt), .b (bi R.pt)], .int .i64 0]) rfl (fun _ => rfl) (fun _ => rfl) (fun γ w => ex_call (vs := [sv [.n 6 (bx0 P.pt), .n 6 (bx1 P.pt), .n 6 (by0 P.pt), .n 6 (by1 P.pt), .b (bi P.pt)], sv [.n 6 (bx0 Q.pt), .n 6 (bx1 Q.pt), .n 6 (by0 Q.pt), .n 6 (by1 Q.pt), .b (bi Q.pt)], .func (.func 37) #[] #[]]) rfl Try.call36 rfl) (fun w h => twojoined_p P Q R hs _) rfl) (by kernel_rfl) rfl) ?_
    refine GSteps.cons (late_step (gm_val (v := sv [.n 6 (bx0 R.pt), .n 6 (bx1 R.pt), .n 6 (by0 R.pt), .n 6 (by1 R.pt), .b (bi R.pt)]) rfl (fun _ => rfl) (fun _ => rfl) (fun γ w h => ex_extract (vs := [sv [.n 6 (bx0 R.pt), .n 6 (bx1 R.pt), .n 6 (by0 R.pt), .n 6 (by1 R.pt), .b (bi R.pt)], .int .i64 0]) rfl rfl) rfl) (by kernel_rfl) rfl) ?_
    refine GSteps.cons (late_step (gm_val (v := .int .i64 0) rfl (fun _ => rfl) (fun _ => rfl) (fun γ w h => ex_extract (vs := [sv [.n 6 (bx0 R.pt), .n 6 (bx1 R.pt), .n 6 (by0 R.pt), .n 6 (by1 R.pt), .b (bi R.pt)], .int .i64 0]) rfl rfl) rfl) (by kernel_rfl) rfl) ?_
    refine GSteps.cons (late_store rfl (fun _ => rfl) (fun γ w h => ex_stores 0 5 (l := [.n 6 0, .n 6 0, .n 6 0, .n 6 0, .b false]) (m := [.n 6 (bx0 R.pt), .n 6 (bx1 R.pt), .n 6 (by0 R.pt), .n 6 (by1 R.pt), .b (bi R.pt)]) flG2.2 rfl rfl rfl rfl (A4.keep h.out) rfl rfl) rfl) ?_
    refine GSteps.cons (late_free (v := .int .i64 0) rfl (fun _ => rfl) (fun _ => rfl) (fun γ w => ex_assign _) rfl rfl) ?_
    exact GSteps.nil
  intro _ w6 w6_ hb6 _ _ hs6
  refine th_r ?_
  have A7 := A2.keep hb6.out
  have A8 := A3.keep hb6.out
  have A9 := A4.keep hb6.out
  have HB10 := below_then HB5 hb6.out
  have A11 := hs6.other (hn1 0 2 (by decide) (by decide) (by decide)) A7
  have A12 := hs6.other (hn1 1 2 (by decide) (by decide) (by decide)) A8
  have A13 := hs6.here 0 5 (l' := [.n 6 (bx0 R.pt), .n 6 (bx1 R.pt), .n 6 (by0 R.pt), .n 6 (by1 R.pt), .b (bi R.pt)]) A9 rfl rfl rfl
  have HB14 := hs6.below HB10 (Nat.le_trans (Nat.le_refl _) le4)
  exact wp_ret (bodyPost_ret (ret2 Try.results22 (res_sv rfl A13 flG2 rfl) (res_tmp rfl)) rfl ⟨rfl, HB14⟩)

theorem duoNeg_pt (P : Pt Zq) (w : World) : Calls Try.prog 21 #[nv 6 [by0 P, by1 P]] w (Is (nv 6 [by0 (ng P), by1 (ng P)]) w) := by
  cases P with
  | inf => exact duoNeg_e 0 0 w zero_B zero_B 0 0 (by decide +kernel) (by decide +kernel)
  | aff x y => exact duoNeg_z y (-y) rfl rfl w
set_option maxRecDepth 20000 in
set_option maxHeartbeats 4000000 in
theorem twoNeg_raw (P : E2) (w : World) :
    Calls Try.prog 11 #[sv [.n 6 (bx0 P.pt), .n 6 (bx1 P.pt), .n 6 (by0 P.pt), .n 6 (by1 P.pt), .b (bi P.pt)]] w (Is (.tuple #[sv [.n 6 (bx0 P.pt), .n 6 (bx1 P.pt), .n 6 (by0 (ng P.pt)), .n 6 (by1 (ng P.pt)), .b (bi P.pt)], .int .i64 0]) w) := by
  go_enter Try.func11, Try.ntmps11
  refine wp_seq (region_m (F := fun γ => ⟨#[sv [.n 6 (bx0 P.pt), .n 6 (bx1 P.pt), .n 6 (by0 P.pt), .n 6 (by1 P.pt), .b (bi P.pt)], .pointer (some ⟨γ 0, 0, none⟩), .pointer (some ⟨γ 1, 0, none⟩), .int .i64 0, undef, undef, undef, undef, undef, undef, undef, undef, undef], []⟩) 2 (fun j_ => match j_ with | 0 => 28 | _ => 28) (fun j_ => match j_ with | 0 => 0 | _ => 1) (fun j_ => match j_ with | 0 => 0 | _ => 1) (fun j_ => match j_ with | 0 => segs [.n 6 (bx0 P.pt), .n 6 (bx1 P.pt), .n 6 (by0 P.pt), .n 6 (by1 P.pt), .b (bi P.pt)] | _ => segs [.n 6 0, .n 6 0, .n 6 0, .n 6 0, .b false]) (fun j_ => match j_ with | 0 => segs [.n 6 (bx0 P.pt), .n 6 (bx1 P.pt), .n 6 (by0 P.pt), .n 6 (by1 P.pt), .b (bi P.pt)] | _ => segs [.n 6 0, .n 6 0, .n 6 0, .n 6 0, .b false]) [1, 2, 3] (.inr ⟨rfl, by kernel_rfl⟩) (by kernel_rfl) rfl rfl rfl ?_ ?_)
  · refine GSteps.cons (gm_box 0 rfl (fun _ => rfl) (fun _ _ => rfl) (fun γ w h => ex_boxs (l := [.n 6 (bx0 P.pt), .n 6 (bx1 P.pt), .n 6 (by0 P.pt), .n 6 (by1 P.pt), .b (bi P.pt)]) rfl) rfl rfl rfl) ?_
    refine GSteps.cons (gm_box 1 rfl (fun _ => rfl) (fun _ _ => rfl) (fun γ w h => ex_allocs (l := [.n 6 0, .n 6 0, .n 6 0, .n 6 0, .b false]) zG2) rfl rfl rfl) ?_
    refine GSteps.cons (gm_val (v := .int .i64 0) rfl (fun _ => rfl) (fun _ => rfl) (fun γ w h => ex_assign _) rfl) ?_
    exact GSteps.nil
  intro γ1 w1 hb1 hB1 hn1
  refine th_r ?_
  have A2 : SB 28 w1 (γ1 0) [.n 6 (bx0 P.pt), .n 6 (bx1 P.pt), .n 6 (by0 P.pt), .n 6 (by1 P.pt), .b (bi P.pt)] := (hB1 0 (by decide)).2
  have le2 := (hB1 0 (by decide)).1
  have A3 : SB 28 w1 (γ1 1) [.n 6 0, .n 6 0, .n 6 0, .n 6 0, .b false] := (hB1 1 (by decide)).2
  have le3 := (hB1 1 (by decide)).1
  have HB4 := below_then (Below.refl w.heap.size w) hb1.out
  refine wp_seq ?_
  refine wp_seq (region_m (F := fun _ => ⟨#[sv [.n 6 (bx0 P.pt), .n 6 (bx1 P.pt), .n 6 (by0 P.pt), .n 6 (by1 P.pt), .b (bi P.pt)], .pointer (some ⟨(γ1 0), 0, none⟩), .pointer (some ⟨(γ1 1), 0, none⟩), .int .i64 0, sv [.n 6 (bx0 P.pt), .n 6 (bx1 P.pt), .n 6 (by0 P.pt), .n 6 (by1 P.pt), .b (bi P.pt)], .bool true, .bool false, undef, undef, undef, undef, undef, undef], []⟩) 0 (fun _ => 0) (fun _ => 0) (fun _ => 0) (fun _ => []) (fun _ => []) [4, 5, 6] (.inr ⟨rfl, by kernel_rfl⟩) (by kernel_rfl) rfl rfl rfl ?_ ?_)
  · refine GSteps.cons (gm_val (v := sv [.n 6 (bx0 P.pt), .n 6 (bx1 P.pt), .n 6 (by0 P.pt), .n 6 (by1 P.pt), .b (bi P.pt)]) rfl (fun _ => rfl) (fun _ => rfl) (fun γ w h => ex_loads 0 5 (m := [.n 6 (bx0 P.pt), .n 6 (bx1 P.pt), .n 6 (by0 P.pt), .n 6 (by1 P.pt), .b (bi P.pt)]) flG2 rfl rfl (A2.keep h.out) rfl rfl) rfl) ?_
    refine GSteps.cons (gm_call (v := .bool true) rfl (fun _ => rfl) (fun _ => rfl) (fun γ w => ex_call (vs := [sv [.n 6 (bx0 P.pt), .n 6 (bx1 P.pt), .n 6 (by0 P.pt), .n 6 (by1 P.pt), .b (bi P.pt)]]) rfl Try.call7 rfl) (fun w h => twoRight_p P _) rfl) ?_
    refine GSteps.cons (gm_val (v := .bool false) rfl (fun _ => rfl) (fun _ => rfl) (fun γ w h => ex_not (r := true) rfl) rfl) ?_
    exact GSteps.nil
  intro _ w5 hb5 _ _
  refine th_r ?_
  have A6 := A2.keep hb5.out
  have A7 := A3.keep hb5.out
  have HB8 := below_then HB4 hb5.out
  refine wp_cond_false rfl ?_
  refine wp_skip ?_
  refine th_r ?_
  refine wp_seq (region_ms (F := fun _ => ⟨#[sv [.n 6 (bx0 P.pt), .n 6 (bx1 P.pt), .n 6 (by0 P.pt), .n 6 (by1 P.pt), .b (bi P.pt)], .pointer (some ⟨(γ1 0), 0, none⟩), .pointer (some ⟨(γ1 1), 0, none⟩), .int .i64 0, sv [.n 6 (bx0 P.pt), .n 6 (bx1 P.pt), .n 6 (by0 P.pt), .n 6 (by1 P.pt), .b (bi P.pt)], .bool true, .bool false, undef, .pointer (some ⟨(γ1 0), 12, none⟩), nv 6 [by0 P.pt, by1 P.pt], nv 6 [by0 (ng P.pt), by1 (ng P.pt)], .pointer (some ⟨(γ1 0), 12, none⟩), undef], []⟩) 4 ((γ1 0)) 12 (segs [.n 6 (by0 (ng P.pt)), .n 6 (by1 (ng P.pt))]) 0 (fun _ => 0) (fun _ => 0) (fun _ => 0) (fun _ => []) (fun _ => []) [8, 9, 10, 11] (.inr ⟨rfl, by kernel_rfl⟩) (by kernel_rfl) rfl rfl rfl ?_ ?_)
  · refine GSteps.cons (late_step (gm_valg (fun γ => .pointer (some ⟨(γ1 0), 12, none⟩)) rfl (fun _ => rfl) (fun _ => rfl) (fun γ w h => ex_field faG2_1 rfl) rfl) (by kernel_rfl) rfl) ?_
    refine GSteps.cons (late_step (gm_val (v := nv 6 [by0 P.pt, by1 P.pt]) rfl (fun _ => rfl) (fun _ => rfl) (fun γ w h => ex_loadsn (K := 6) 2 2 (m := [by0 P.pt, by1 P.pt]) flFp2 rfl rfl (A6.keep h.out) rfl rfl) rfl) (by kernel_rfl) rfl) ?_
    refine GSteps.cons (late_step (gm_call (v := nv 6 [by0 (ng P.pt), by1 (ng P.pt)]) rfl (fun _ => rfl) (fun _ => rfl) (fun γ w => ex_call (vs := [nv 6 [by0 P.pt, by1 P.pt]]) rfl Try.call21 rfl) (fun w h => duoNeg_pt P.pt _) rfl) (by kernel_rfl) rfl) ?_
    refine GSteps.cons (late_step (gm_valg (fun γ => .pointer (some ⟨(γ1 0), 12, none⟩)) rfl (fun _ => rfl) (fun _ => rfl) (fun γ w h => ex_field faG2_1 rfl) rfl) (by kernel_rfl) rfl) ?_
    refine GSteps.cons (late_store rfl (fun _ => rfl) (fun γ w h => ex_stores 2 2 (l := [.n 6 (bx0 P.pt), .n 6 (bx1 P.pt), .n 6 (by0 P.pt), .n 6 (by1 P.pt), .b (bi P.pt)]) (m := [.n 6 (by0 (ng P.pt)), .n 6 (by1 (ng P.pt))]) flFp2.2 rfl rfl rfl (nv_cells 6 [by0 (ng P.pt), by1 (ng P.pt)]) (A6.keep h.out) rfl rfl) rfl) ?_
    exact GSteps.nil
  intro _ w9 w9_ hb9 _ _ hs9
  refine th_r ?_
  have A10 := A6.keep hb9.out
  have A11 := A7.keep hb9.out
  have HB12 := below_then HB8 hb9.out
  have A13 := hs9.here 2 2 (l' := [.n 6 (bx0 P.pt), .n 6 (bx1 P.pt), .n 6 (by0 (ng P.pt)), .n 6 (by1 (ng P.pt)), .b (bi P.pt)]) A10 rfl rfl rfl
  have A14 := hs9.other (Ne.symm (hn1 0 1 (by decide) (by decide) (by decide))) A11
  have HB15 := hs9.below HB12 (Nat.le_trans (Nat.le_refl _) le2)
  refine wp_seq (region_ms (F := fun _ => ⟨#[sv [.n 6 (bx0 P.pt), .n 6 (bx1 P.pt), .n 6 (by0 P.pt), .n 6 (by1 P.pt), .b (bi P.pt)], .pointer (some ⟨(γ1 0), 0, none⟩), .pointer (some ⟨(γ1 1), 0, none⟩), .int .i64 0, sv [.n 6 (bx0 P.pt), .n 6 (bx1 P.pt), .n 6 (by0 P.pt), .n 6 (by1 P.pt), .b (bi P.pt)], .bool true, .bool false, undef, .pointer (some ⟨(γ1 0), 12, none⟩), nv 6 [by0 P.pt, by1 P.pt], nv 6 [by0 (ng P.pt), by1 (ng P.pt)], .pointer (some ⟨(γ1 0), 12, none⟩), sv [.n 6 (bx0 P.pt), .n 6 (bx1 P.pt), .n 6 (by0 (ng P.pt)), .n 6 (by1 (ng P.pt)), .b (bi P.pt)]], []⟩) 1 ((γ1 1)) 0 (segs [.n 6 (bx0 P.pt), .n 6 (bx1 P.pt), .n 6 (by0 (ng P.pt)), .n 6 (by1 (ng P.pt)), .b (bi P.pt)]) 0 (fun _ => 0) (fun _ => 0) (fun _ => 0) (fun _ => []) (fun _ => []) [12, 3] (.inr ⟨rfl, by kernel_rfl⟩) (by kernel_rfl) rfl rfl rfl ?_ ?_)
  · refine GSteps.cons (late_step (gm_val (v := sv [.n 6 (bx0 P.pt), .n 6 (bx1 P.pt), .n 6 (by0 (ng P.pt)), .n 6 (by1 (ng P.pt)), .b (bi P.pt)]) rfl (fun _ => rfl) (fun _ => rfl) (fun γ w h => ex_loads 0 5 (m := [.n 6 (bx0 P.pt), .n 6 (bx1 P.pt), .n 6 (by0 (ng P.pt)), .n 6 (by1 (ng P.pt)), .b (bi P.pt)]) flG2 rfl rfl (A13.keep h.out) rfl rfl) rfl) (by kernel_rfl) rfl) ?_
    refine GSteps.cons (late_store rfl (fun _ => rfl) (fun γ w h => ex_stores 0 5 (l := [.n 6 0, .n 6 0, .n 6 0, .n 6 0, .b false]) (m := [.n 6 (bx0 P.pt), .n 6 (bx1 P.pt), .n 6 (by0 (ng P.pt)), .n 6 (by1 (ng P.pt)), .b (bi P.pt)]) flG2.2 rfl rfl rfl rfl (A14.keep h.out) rfl rfl) rfl) ?_
    refine GSteps.cons (late_free (v := .int .i64 0) rfl (fun _ => rfl) (fun _ => rfl) (fun γ w => ex_assign _) rfl rfl) ?_
    exact GSteps.nil
  intro _ w16 w16_ hb16 _ _ hs16
  refine th_r ?_
  have A17 := A13.keep hb16.out
  have A18 := A14.keep hb16.out
  have HB19 := below_then HB15 hb16.out
  have A20 := hs16.other (hn1 0 1 (by decide) (by decide) (by decide)) A17
  have A21 := hs16.here 0 5 (l' := [.n 6 (bx0 P.pt), .n 6 (bx1 P.pt), .n 6 (by0 (ng P.pt)), .n 6 (by1 (ng P.pt)), .b (bi P.pt)]) A18 rfl rfl rfl
  have HB22 := hs16.below HB19 (Nat.le_trans (Nat.le_refl _) le3)
  exact wp_ret (bodyPost_ret (ret2 Try.results11 (res_sv rfl A21 flG2 rfl) (res_tmp rfl)) rfl ⟨rfl, HB22⟩)

theorem twoNeg_p' (P : E2) (w : World) : Calls Try.prog 11 #[sv [.n 6 (bx0 P.pt), .n 6 (bx1 P.pt), .n 6 (by0 P.pt), .n 6 (by1 P.pt), .b (bi P.pt)]] w (Is (.tuple #[sv [.n 6 (bx0 P.neg.pt), .n 6 (bx1 P.neg.pt), .n 6 (by0 P.neg.pt), .n 6 (by1 P.neg.pt), .b (bi P.neg.pt)], .int .i64 0]) w) := by
  have h := twoNeg_raw P w
  obtain ⟨P, hP⟩ := P
  cases P with
  | inf => exact h
  | aff x y => exact h
theorem twoNeg_q (P R : E2) (h : P.neg = R) (w : World) : Calls Try.prog 11 #[sv [.n 6 (bx0 P.pt), .n 6 (bx1 P.pt), .n 6 (by0 P.pt), .n 6 (by1 P.pt), .b (bi P.pt)]] w (Is (.tuple #[sv [.n 6 (bx0 R.pt), .n 6 (bx1 R.pt), .n 6 (by0 R.pt), .n 6 (by1 R.pt), .b (bi R.pt)], .int .i64 0]) w) := by
  subst h
  exact twoNeg_p' P w
end Go.Proofs.Ytmhieifjmgcbkaa

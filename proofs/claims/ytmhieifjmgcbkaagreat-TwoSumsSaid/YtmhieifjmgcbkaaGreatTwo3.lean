/- What is proved here: how often a point is taken; what is of the group; the reference's sum (chirographref09). -/
import Derived.Test.YtmhieifjmgcbkaaGreatTwo1
namespace Go.Proofs.YtmhieifjmgcbkaaGreat
open Go.RowKit Cv

def g2xa : Nat := 352701069587466618187139116011060144890029952792775240219908644239793785735715026873347600343865175952761926303160
theorem lit_g2xa : nv 6 [g2xa] = .agg #[.int .u64 15312334153293348280, .int .u64 841050694974028783, .int .u64 12993178926126977399, .int .u64 14331714969349929730, .int .u64 2740446039084699729, .int .u64 165123225776229009] := by rw [nv6]; kernel_rfl
theorem g2xa_B : g2xa < fpB := by decide +kernel
def g2xb : Nat := 3059144344244213709971259814753781636986470325476647558659373206291635324768958432433509563104347017837885763365758
theorem lit_g2xb : nv 6 [g2xb] = .agg #[.int .u64 16549740192668593022, .int .u64 3696594454104530263, .int .u64 13103893525273989193, .int .u64 6443473286224459290, .int .u64 9055845637167730533, .int .u64 1432192374203850592] := by rw [nv6]; kernel_rfl
theorem g2xb_B : g2xb < fpB := by decide +kernel
def g2ya : Nat := 1985150602287291935568054521177171638300868978215655730859378665066344726373823718423869104263333984641494340347905
theorem lit_g2ya : nv 6 [g2ya] = .agg #[.int .u64 16254428414758889473, .int .u64 10536956157198377609, .int .u64 7873024875724591404, .int .u64 12537348094477325223, .int .u64 10144865889576432922, .int .u64 929383263523139089] := by rw [nv6]; kernel_rfl
theorem g2ya_B : g2ya < fpB := by decide +kernel
def g2yb : Nat := 927553665492332455747201965776037880757740193453592970025027978793976877002675564980949289727957565575433344219582
theorem lit_g2yb : nv 6 [g2yb] = .agg #[.int .u64 12297368366147926462, .int .u64 4555124010822409633, .int .u64 2771000935339432363, .int .u64 14645187562128761775, .int .u64 3651525051980876697, .int .u64 434250606344352972] := by rw [nv6]; kernel_rfl
theorem g2yb_B : g2yb < fpB := by decide +kernel

set_option maxRecDepth 20000 in
set_option maxHeartbeats 4000000 in
theorem twoGen_v (w : World) :
    Calls Tryz.prog 31 #[] w (Is (sv [.n 6 g2xa, .n 6 g2xb, .n 6 g2ya, .n 6 g2yb, .b false]) w) := by
  go_enter Tryz.func31, Tryz.ntmps31
  refine wp_seq (region_m (F := fun γ => ⟨#[.pointer (some ⟨γ 0, 0, none⟩), undef, undef, undef, undef, undef, undef, undef], []⟩) 1 (fun _ => 28) (fun _ => 0) (fun _ => 0) (fun _ => segs [.n 6 0, .n 6 0, .n 6 0, .n 6 0, .b false]) (fun _ => segs [.n 6 0, .n 6 0, .n 6 0, .n 6 0, .b false]) [0] (.inr ⟨rfl, by kernel_rfl⟩) (by kernel_rfl) rfl rfl rfl ?_ ?_)
  · refine GSteps.cons (gm_box 0 rfl (fun _ => rfl) (fun _ _ => rfl) (fun γ w h => ex_allocs (l := [.n 6 0, .n 6 0, .n 6 0, .n 6 0, .b false]) zG2) rfl rfl rfl) ?_
    exact GSteps.nil
  intro γ1 w1 hb1 hB1 _
  refine th_r ?_
  have A2 : SB 28 w1 (γ1 0) [.n 6 0, .n 6 0, .n 6 0, .n 6 0, .b false] := (hB1 0 (by decide)).2
  have le2 := (hB1 0 (by decide)).1
  have HB3 := below_then (Below.refl w.heap.size w) hb1.out
  refine wp_seq (region_ms (F := fun _ => ⟨#[.pointer (some ⟨(γ1 0), 0, none⟩), nv 6 [g2xa], nv 6 [g2xb], nv 6 [g2xa, g2xb], nv 6 [g2ya], nv 6 [g2yb], nv 6 [g2ya, g2yb], sv [.n 6 g2xa, .n 6 g2xb, .n 6 g2ya, .n 6 g2yb, .b false]], []⟩) 7 ((γ1 0)) 0 (segs [.n 6 g2xa, .n 6 g2xb, .n 6 g2ya, .n 6 g2yb, .b false]) 0 (fun _ => 0) (fun _ => 0) (fun _ => 0) (fun _ => []) (fun _ => []) [1, 2, 3, 4, 5, 6, 7] (.inr ⟨rfl, by kernel_rfl⟩) (by kernel_rfl) rfl rfl rfl ?_ ?_)
  · refine GSteps.cons (late_step (gm_val (v := nv 6 [g2xa]) rfl (fun _ => rfl) (fun _ => rfl) (fun γ w h => ex_six lit_g2xa (fun _ => rfl)) rfl) (by kernel_rfl) rfl) ?_
    refine GSteps.cons (late_step (gm_val (v := nv 6 [g2xb]) rfl (fun _ => rfl) (fun _ => rfl) (fun γ w h => ex_six lit_g2xb (fun _ => rfl)) rfl) (by kernel_rfl) rfl) ?_
    refine GSteps.cons (late_step (gm_val (v := nv 6 [g2xa, g2xb]) rfl (fun _ => rfl) (fun _ => rfl) (fun γ w h => ex_build stFp2 (vs := [(0, nv 6 [g2xa]), (1, nv 6 [g2xb])]) rfl (bdAB g2xa g2xb)) rfl) (by kernel_rfl) rfl) ?_
    refine GSteps.cons (late_step (gm_val (v := nv 6 [g2ya]) rfl (fun _ => rfl) (fun _ => rfl) (fun γ w h => ex_six lit_g2ya (fun _ => rfl)) rfl) (by kernel_rfl) rfl) ?_
    refine GSteps.cons (late_step (gm_val (v := nv 6 [g2yb]) rfl (fun _ => rfl) (fun _ => rfl) (fun γ w h => ex_six lit_g2yb (fun _ => rfl)) rfl) (by kernel_rfl) rfl) ?_
    refine GSteps.cons (late_step (gm_val (v := nv 6 [g2ya, g2yb]) rfl (fun _ => rfl) (fun _ => rfl) (fun γ w h => ex_build stFp2 (vs := [(0, nv 6 [g2ya]), (1, nv 6 [g2yb])]) rfl (bdAB g2ya g2yb)) rfl) (by kernel_rfl) rfl) ?_
    refine GSteps.cons (late_step (gm_val (v := sv [.n 6 g2xa, .n 6 g2xb, .n 6 g2ya, .n 6 g2yb, .b false]) rfl (fun _ => rfl) (fun _ => rfl) (fun γ w h => ex_builds stG2 (l := [.n 6 g2xa, .n 6 g2xb, .n 6 g2ya, .n 6 g2yb, .b false]) (vs := [(0, nv 6 [g2xa, g2xb]), (1, nv 6 [g2ya, g2yb])]) rfl ((fills_cons 0 2 (m := [.n 6 g2xa, .n 6 g2xb]) (z' := [.n 6 g2xa, .n 6 g2xb, .n 6 0, .n 6 0, .b false]) rfl (nv_cells 6 [g2xa, g2xb]) rfl rfl rfl rfl).trans ((fills_cons 2 2 (m := [.n 6 g2ya, .n 6 g2yb]) (z' := [.n 6 g2xa, .n 6 g2xb, .n 6 g2ya, .n 6 g2yb, .b false]) rfl (nv_cells 6 [g2ya, g2yb]) rfl rfl rfl rfl).trans rfl))) rfl) (by kernel_rfl) rfl) ?_
    refine GSteps.cons (late_store rfl (fun _ => rfl) (fun γ w h => ex_stores 0 5 (l := [.n 6 0, .n 6 0, .n 6 0, .n 6 0, .b false]) (m := [.n 6 g2xa, .n 6 g2xb, .n 6 g2ya, .n 6 g2yb, .b false]) flG2.2 rfl rfl rfl rfl (A2.keep h.out) rfl rfl) rfl) ?_
    exact GSteps.nil
  intro _ w4 w4_ hb4 _ _ hs4
  refine th_r ?_
  have A5 := A2.keep hb4.out
  have HB6 := below_then HB3 hb4.out
  have A7 := hs4.here 0 5 (l' := [.n 6 g2xa, .n 6 g2xb, .n 6 g2ya, .n 6 g2yb, .b false]) A5 rfl rfl rfl
  have HB8 := hs4.below HB6 (Nat.le_trans (Nat.le_refl _) le2)
  exact wp_ret (bodyPost_ret (ret1 Tryz.results31 (res_sv rfl A7 flG2 rfl)) rfl ⟨rfl, HB8⟩)

set_option maxRecDepth 20000 in
set_option maxHeartbeats 4000000 in
theorem r9Some_v (w : World) :
    Calls Tryz.prog 32 #[.int .i64 0] w (Is (sv [.n 6 g2xa, .n 6 g2xb, .n 6 g2ya, .n 6 g2yb, .b false]) w) := by
  go_enter Tryz.func32, Tryz.ntmps32
  refine wp_seq (region_m (F := fun γ => ⟨List.toArray ((.int .i64 0) :: undef :: (.pointer (some ⟨γ 0, 0, none⟩)) :: undef :: undef :: undef :: undef :: undef :: undef :: undef :: undef :: undef :: undef :: undef :: undef :: undef :: undef :: undef :: undef :: undef :: undef :: undef :: undef :: undef :: undef :: undef :: undef :: undef :: undef :: undef :: undef :: undef :: undef :: undef :: undef :: undef :: undef :: undef :: undef :: undef :: undef :: undef :: undef :: undef :: undef :: undef :: undef :: undef :: undef :: undef :: undef :: undef :: undef :: undef :: undef :: undef :: undef :: undef :: undef :: []), []⟩) 1 (fun _ => 28) (fun _ => 0) (fun _ => 0) (fun _ => segs [.n 6 0, .n 6 0, .n 6 0, .n 6 0, .b false]) (fun _ => segs [.n 6 0, .n 6 0, .n 6 0, .n 6 0, .b false]) [2] (.inr ⟨rfl, by kernel_rfl⟩) (by kernel_rfl) rfl rfl rfl ?_ ?_)
  · refine GSteps.cons (gm_box 0 rfl (fun _ => rfl) (fun _ _ => rfl) (fun γ w h => ex_allocs (l := [.n 6 0, .n 6 0, .n 6 0, .n 6 0, .b false]) zG2) rfl rfl rfl) ?_
    exact GSteps.nil
  intro γ1 w1 hb1 hB1 _
  refine th_r ?_
  have A2 : SB 28 w1 (γ1 0) [.n 6 0, .n 6 0, .n 6 0, .n 6 0, .b false] := (hB1 0 (by decide)).2
  have le2 := (hB1 0 (by decide)).1
  have HB3 := below_then (Below.refl w.heap.size w) hb1.out
  refine wp_seq ?_
  refine wp_seq (region_m (F := fun _ => ⟨List.toArray ((.int .i64 0) :: undef :: (.pointer (some ⟨(γ1 0), 0, none⟩)) :: (.int .i64 0) :: undef :: undef :: undef :: undef :: undef :: undef :: undef :: undef :: undef :: undef :: undef :: undef :: undef :: undef :: undef :: undef :: undef :: undef :: undef :: undef :: undef :: undef :: undef :: undef :: undef :: undef :: undef :: undef :: undef :: undef :: undef :: undef :: undef :: undef :: undef :: undef :: undef :: undef :: undef :: undef :: undef :: undef :: undef :: undef :: undef :: undef :: undef :: undef :: undef :: undef :: undef :: undef :: undef :: undef :: undef :: []), []⟩) 0 (fun _ => 0) (fun _ => 0) (fun _ => 0) (fun _ => []) (fun _ => []) [3] (.inr ⟨rfl, by kernel_rfl⟩) (by kernel_rfl) rfl rfl rfl ?_ ?_)
  · refine GSteps.cons (gm_val (v := .int .i64 0) rfl (fun _ => rfl) (fun _ => rfl) (fun γ w h => ex_move _) rfl) ?_
    exact GSteps.nil
  intro _ w4 hb4 _ _
  refine th_r ?_
  have A5 := A2.keep hb4.out
  have HB6 := below_then HB3 hb4.out
  refine wp_block ?_
  refine wp_seq (region_m (F := fun _ => ⟨List.toArray ((.int .i64 0) :: undef :: (.pointer (some ⟨(γ1 0), 0, none⟩)) :: (.int .i64 0) :: (.bool true) :: (.bool true) :: undef :: undef :: undef :: undef :: undef :: undef :: undef :: undef :: undef :: undef :: undef :: undef :: undef :: undef :: undef :: undef :: undef :: undef :: undef :: undef :: undef :: undef :: undef :: undef :: undef :: undef :: undef :: undef :: undef :: undef :: undef :: undef :: undef :: undef :: undef :: undef :: undef :: undef :: undef :: undef :: undef :: undef :: undef :: undef :: undef :: undef :: undef :: undef :: undef :: undef :: undef :: undef :: undef :: []), []⟩) 0 (fun _ => 0) (fun _ => 0) (fun _ => 0) (fun _ => []) (fun _ => []) [5, 4] (.inr ⟨rfl, by kernel_rfl⟩) (by kernel_rfl) rfl rfl rfl ?_ ?_)
  · refine GSteps.cons (gm_val (v := .bool true) rfl (fun _ => rfl) (fun _ => rfl) (fun γ w h => ex_eqi rfl rfl _ rfl) rfl) ?_
    refine GSteps.cons (gm_val (v := .bool true) rfl (fun _ => rfl) (fun _ => rfl) (fun γ w h => ex_assign _) rfl) ?_
    exact GSteps.nil
  intro _ w7 hb7 _ _
  refine th_r ?_
  have A8 := A5.keep hb7.out
  have HB9 := below_then HB6 hb7.out
  refine wp_cond_true rfl ?_
  refine wp_seq (region_ms (F := fun _ => ⟨List.toArray ((.int .i64 0) :: undef :: (.pointer (some ⟨(γ1 0), 0, none⟩)) :: (.int .i64 0) :: (.bool true) :: (.bool true) :: (nv 6 [g2xa]) :: (nv 6 [g2xb]) :: (nv 6 [g2xa, g2xb]) :: (nv 6 [g2ya]) :: (nv 6 [g2yb]) :: (nv 6 [g2ya, g2yb]) :: (sv [.n 6 g2xa, .n 6 g2xb, .n 6 g2ya, .n 6 g2yb, .b false]) :: undef :: undef :: undef :: undef :: undef :: undef :: undef :: undef :: undef :: undef :: undef :: undef :: undef :: undef :: undef :: undef :: undef :: undef :: undef :: undef :: undef :: undef :: undef :: undef :: undef :: undef :: undef :: undef :: undef :: undef :: undef :: undef :: undef :: undef :: undef :: undef :: undef :: undef :: undef :: undef :: undef :: undef :: undef :: undef :: undef :: undef :: []), []⟩) 7 ((γ1 0)) 0 (segs [.n 6 g2xa, .n 6 g2xb, .n 6 g2ya, .n 6 g2yb, .b false]) 0 (fun _ => 0) (fun _ => 0) (fun _ => 0) (fun _ => []) (fun _ => []) [6, 7, 8, 9, 10, 11, 12] (.inr ⟨rfl, by kernel_rfl⟩) (by kernel_rfl) rfl rfl rfl ?_ ?_)
  · refine GSteps.cons (late_step (gm_val (v := nv 6 [g2xa]) rfl (fun _ => rfl) (fun _ => rfl) (fun γ w h => ex_six lit_g2xa (fun _ => rfl)) rfl) (by kernel_rfl) rfl) ?_
    refine GSteps.cons (late_step (gm_val (v := nv 6 [g2xb]) rfl (fun _ => rfl) (fun _ => rfl) (fun γ w h => ex_six lit_g2xb (fun _ => rfl)) rfl) (by kernel_rfl) rfl) ?_
    refine GSteps.cons (late_step (gm_val (v := nv 6 [g2xa, g2xb]) rfl (fun _ => rfl) (fun _ => rfl) (fun γ w h => ex_build stFp2 (vs := [(0, nv 6 [g2xa]), (1, nv 6 [g2xb])]) rfl (bdAB g2xa g2xb)) rfl) (by kernel_rfl) rfl) ?_
    refine GSteps.cons (late_step (gm_val (v := nv 6 [g2ya]) rfl (fun _ => rfl) (fun _ => rfl) (fun γ w h => ex_six lit_g2ya (fun _ => rfl)) rfl) (by kernel_rfl) rfl) ?_
    refine GSteps.cons (late_step (gm_val (v := nv 6 [g2yb]) rfl (fun _ => rfl) (fun _ => rfl) (fun γ w h => ex_six lit_g2yb (fun _ => rfl)) rfl) (by kernel_rfl) rfl) ?_
    refine GSteps.cons (late_step (gm_val (v := nv 6 [g2ya, g2yb]) rfl (fun _ => rfl) (fun _ => rfl) (fun γ w h => ex_build stFp2 (vs := [(0, nv 6 [g2ya]), (1, nv 6 [g2yb])]) rfl (bdAB g2ya g2yb)) rfl) (by kernel_rfl) rfl) ?_
    refine GSteps.cons (late_step (gm_val (v := sv [.n 6 g2xa, .n 6 g2xb, .n 6 g2ya, .n 6 g2yb, .b false]) rfl (fun _ => rfl) (fun _ => rfl) (fun γ w h => ex_builds stG2 (l := [.n 6 g2xa, .n 6 g2xb, .n 6 g2ya, .n 6 g2yb, .b false]) (vs := [(0, nv 6 [g2xa, g2xb]), (1, nv 6 [g2ya, g2yb])]) rfl ((fills_cons 0 2 (m := [.n 6 g2xa, .n 6 g2xb]) (z' := [.n 6 g2xa, .n 6 g2xb, .n 6 0, .n 6 0, .b false]) rfl (nv_cells 6 [g2xa, g2xb]) rfl rfl rfl rfl).trans ((fills_cons 2 2 (m := [.n 6 g2ya, .n 6 g2yb]) (z' := [.n 6 g2xa, .n 6 g2xb, .n 6 g2ya, .n 6 g2yb, .b false]) rfl (nv_cells 6 [g2ya, g2yb]) rfl rfl rfl rfl).trans rfl))) rfl) (by kernel_rfl) rfl) ?_
    refine GSteps.cons (late_store rfl (fun _ => rfl) (fun γ w h => ex_stores 0 5 (l := [.n 6 0, .n 6 0, .n 6 0, .n 6 0, .b false]) (m := [.n 6 g2xa, .n 6 g2xb, .n 6 g2ya, .n 6 g2yb, .b false]) flG2.2 rfl rfl rfl rfl (A8.keep h.out) rfl rfl) rfl) ?_
    exact GSteps.nil
  intro _ w10 w10_ hb10 _ _ hs10
  refine th_r ?_
  have A11 := A8.keep hb10.out
  have HB12 := below_then HB9 hb10.out
  have A13 := hs10.here 0 5 (l' := [.n 6 g2xa, .n 6 g2xb, .n 6 g2ya, .n 6 g2yb, .b false]) A11 rfl rfl rfl
  have HB14 := hs10.below HB12 (Nat.le_trans (Nat.le_refl _) le2)
  exact wp_ret (bk_r (th_ret (bodyPost_ret (ret1 Tryz.results32 (res_sv rfl A13 flG2 rfl)) rfl ⟨rfl, HB14⟩)))

/-- The point at infinity. -/
def Z2 : E2 := EP.zero
set_option maxRecDepth 20000 in
set_option maxHeartbeats 4000000 in
theorem r9three_e' (x v : Zq) (hv : v = 3 * x) (w : World) :
    Calls Tryz.prog 34 #[nv 6 [x.re.val, x.im.val]] w (Is (nv 6 [v.re.val, v.im.val]) w) := by
  obtain ⟨z1, ez1⟩ : ∃ q_ : Zq, q_ = x + x := ⟨_, rfl⟩
  obtain ⟨z2, ez2⟩ : ∃ q_ : Zq, q_ = x + z1 := ⟨_, rfl⟩
  obtain rfl : z2 = v := by subst ez2 ez1; rw [hv]; first | done | (clear hv; grind)
  go_enter Tryz.func34, Tryz.ntmps34
  refine wp_seq (region_m (F := fun γ => ⟨#[nv 6 [x.re.val, x.im.val], .pointer (some ⟨γ 0, 0, none⟩), .pointer (some ⟨γ 1, 0, none⟩), undef, undef, undef, undef, undef], []⟩) 2 (fun j_ => match j_ with | 0 => 26 | _ => 26) (fun j_ => match j_ with | 0 => 0 | _ => 1) (fun j_ => match j_ with | 0 => 0 | _ => 1) (fun j_ => match j_ with | 0 => segs [.n 6 x.re.val, .n 6 x.im.val] | _ => segs [.n 6 0, .n 6 0]) (fun j_ => match j_ with | 0 => segs [.n 6 x.re.val, .n 6 x.im.val] | _ => segs [.n 6 0, .n 6 0]) [1, 2] (.inr ⟨rfl, by kernel_rfl⟩) (by kernel_rfl) rfl rfl rfl ?_ ?_)
  · refine GSteps.cons (gm_box 0 rfl (fun _ => rfl) (fun _ _ => rfl) (fun γ w h => ex_boxsn (K := 6) (l := [x.re.val, x.im.val]) rfl) rfl rfl rfl) ?_
    refine GSteps.cons (gm_box 1 rfl (fun _ => rfl) (fun _ _ => rfl) (fun γ w h => ex_allocsn (K := 6) (l := [0, 0]) zFp2) rfl rfl rfl) ?_
    exact GSteps.nil
  intro γ1 w1 hb1 hB1 hn1
  refine th_r ?_
  have A2 : SB 26 w1 (γ1 0) [.n 6 x.re.val, .n 6 x.im.val] := (hB1 0 (by decide)).2
  have le2 := (hB1 0 (by decide)).1
  have A3 : SB 26 w1 (γ1 1) [.n 6 0, .n 6 0] := (hB1 1 (by decide)).2
  have le3 := (hB1 1 (by decide)).1
  have HB4 := below_then (Below.refl w.heap.size w) hb1.out
  refine wp_seq (region_ms (F := fun _ => ⟨#[nv 6 [x.re.val, x.im.val], .pointer (some ⟨(γ1 0), 0, none⟩), .pointer (some ⟨(γ1 1), 0, none⟩), nv 6 [x.re.val, x.im.val], nv 6 [x.re.val, x.im.val], nv 6 [x.re.val, x.im.val], nv 6 [z1.re.val, z1.im.val], nv 6 [z2.re.val, z2.im.val]], []⟩) 5 ((γ1 1)) 0 (segs [.n 6 z2.re.val, .n 6 z2.im.val]) 0 (fun _ => 0) (fun _ => 0) (fun _ => 0) (fun _ => []) (fun _ => []) [3, 4, 5, 6, 7] (.inl ⟨rfl, by kernel_rfl⟩) (by kernel_rfl) rfl rfl rfl ?_ ?_)
  · refine GSteps.cons (late_step (gm_val (v := nv 6 [x.re.val, x.im.val]) rfl (fun _ => rfl) (fun _ => rfl) (fun γ w h => ex_loadsn (K := 6) 0 2 (m := [x.re.val, x.im.val]) flFp2 rfl rfl (A2.keep h.out) rfl rfl) rfl) (by kernel_rfl) rfl) ?_
    refine GSteps.cons (late_step (gm_val (v := nv 6 [x.re.val, x.im.val]) rfl (fun _ => rfl) (fun _ => rfl) (fun γ w h => ex_loadsn (K := 6) 0 2 (m := [x.re.val, x.im.val]) flFp2 rfl rfl (A2.keep h.out) rfl rfl) rfl) (by kernel_rfl) rfl) ?_
    refine GSteps.cons (late_step (gm_val (v := nv 6 [x.re.val, x.im.val]) rfl (fun _ => rfl) (fun _ => rfl) (fun γ w h => ex_loadsn (K := 6) 0 2 (m := [x.re.val, x.im.val]) flFp2 rfl rfl (A2.keep h.out) rfl rfl) rfl) (by kernel_rfl) rfl) ?_
    refine GSteps.cons (late_step (gm_call (v := nv 6 [z1.re.val, z1.im.val]) rfl (fun _ => rfl) (fun _ => rfl) (fun γ w => ex_call (vs := [nv 6 [x.re.val, x.im.val], nv 6 [x.re.val, x.im.val]]) rfl Tryz.call29 rfl) (fun w h => r5Add_z x x z1 rfl rfl ez1 _) rfl) (by kernel_rfl) rfl) ?_
    refine GSteps.cons (late_step (gm_call (v := nv 6 [z2.re.val, z2.im.val]) rfl (fun _ => rfl) (fun _ => rfl) (fun γ w => ex_call (vs := [nv 6 [x.re.val, x.im.val], nv 6 [z1.re.val, z1.im.val]]) rfl Tryz.call29 rfl) (fun w h => r5Add_z x z1 z2 rfl rfl ez2 _) rfl) (by kernel_rfl) rfl) ?_
    refine GSteps.cons (late_store rfl (fun _ => rfl) (fun γ w h => ex_stores 0 2 (l := [.n 6 0, .n 6 0]) (m := [.n 6 z2.re.val, .n 6 z2.im.val]) flFp2.2 rfl rfl rfl (nv_cells 6 [z2.re.val, z2.im.val]) (A3.keep h.out) rfl rfl) rfl) ?_
    exact GSteps.nil
  intro _ w5 w5_ hb5 _ _ hs5
  refine th_r ?_
  have A6 := A2.keep hb5.out
  have A7 := A3.keep hb5.out
  have HB8 := below_then HB4 hb5.out
  have A9 := hs5.other (hn1 0 1 (by decide) (by decide) (by decide)) A6
  have A10 := hs5.here 0 2 (l' := [.n 6 z2.re.val, .n 6 z2.im.val]) A7 rfl rfl rfl
  have HB11 := hs5.below HB8 (Nat.le_trans (Nat.le_refl _) le3)
  exact wp_ret (bodyPost_ret (ret1 Tryz.results34 (res_nv (K := 6) (l := [z2.re.val, z2.im.val]) rfl A10 flFp2 rfl)) rfl ⟨rfl, HB11⟩)

theorem r9three_e {l0 : List Nat} (x v : Zq) (hl0 : l0 = [x.re.val, x.im.val]) (hv : v = 3 * x) (w : World) :
    Calls Tryz.prog 34 #[nv 6 l0] w (Is (nv 6 [v.re.val, v.im.val]) w) := by
  subst hl0
  exact r9three_e' x v hv w

set_option maxRecDepth 20000 in
set_option maxHeartbeats 4000000 in
theorem r9chord_v (x1 y1 x2 y2 x3 y3 dx dy : Zq) (h1 : (x3 + (x1 + x2)) * (dx * dx) = dy * dy) (h2 : (y3 + y1) * dx = dy * (x1 - x3)) (w : World) :
    Calls Tryz.prog 33 #[sv [.n 6 x1.re.val, .n 6 x1.im.val, .n 6 y1.re.val, .n 6 y1.im.val, .b false], sv [.n 6 x2.re.val, .n 6 x2.im.val, .n 6 y2.re.val, .n 6 y2.im.val, .b false], sv [.n 6 x3.re.val, .n 6 x3.im.val, .n 6 y3.re.val, .n 6 y3.im.val, .b false], nv 6 [dx.re.val, dx.im.val], nv 6 [dy.re.val, dy.im.val]] w (Is (.bool true) w) := by
  obtain ⟨z1, ez1⟩ : ∃ q_ : Zq, q_ = x1 + x2 := ⟨_, rfl⟩
  obtain ⟨z2, ez2⟩ : ∃ q_ : Zq, q_ = x3 + z1 := ⟨_, rfl⟩
  obtain ⟨z3, ez3⟩ : ∃ q_ : Zq, q_ = dx * dx := ⟨_, rfl⟩
  obtain ⟨z4, ez4⟩ : ∃ q_ : Zq, q_ = z2 * z3 := ⟨_, rfl⟩
  obtain ⟨z5, ez5⟩ : ∃ q_ : Zq, q_ = dy * dy := ⟨_, rfl⟩
  obtain ⟨z6, ez6⟩ : ∃ q_ : Zq, q_ = y3 + y1 := ⟨_, rfl⟩
  obtain ⟨z7, ez7⟩ : ∃ q_ : Zq, q_ = z6 * dx := ⟨_, rfl⟩
  obtain ⟨z8, ez8⟩ : ∃ q_ : Zq, q_ = x1 - x3 := ⟨_, rfl⟩
  obtain ⟨z9, ez9⟩ : ∃ q_ : Zq, q_ = dy * z8 := ⟨_, rfl⟩
  go_enter Tryz.func33, Tryz.ntmps33
  refine wp_seq (region_m (F := fun γ => ⟨List.toArray ((sv [.n 6 x1.re.val, .n 6 x1.im.val, .n 6 y1.re.val, .n 6 y1.im.val, .b false]) :: (sv [.n 6 x2.re.val, .n 6 x2.im.val, .n 6 y2.re.val, .n 6 y2.im.val, .b false]) :: (sv [.n 6 x3.re.val, .n 6 x3.im.val, .n 6 y3.re.val, .n 6 y3.im.val, .b false]) :: (nv 6 [dx.re.val, dx.im.val]) :: (nv 6 [dy.re.val, dy.im.val]) :: (.pointer (some ⟨γ 0, 0, none⟩)) :: (.pointer (some ⟨γ 1, 0, none⟩)) :: (.pointer (some ⟨γ 2, 0, none⟩)) :: (.pointer (some ⟨γ 3, 0, none⟩)) :: (.pointer (some ⟨γ 4, 0, none⟩)) :: (.bool false) :: undef :: undef :: undef :: undef :: undef :: undef :: undef :: undef :: undef :: undef :: undef :: undef :: undef :: undef :: undef :: undef :: undef :: undef :: undef :: undef :: undef :: undef :: undef :: undef :: undef :: undef :: undef :: undef :: undef :: undef :: undef :: undef :: undef :: undef :: undef :: []), []⟩) 5 (fun j_ => match j_ with | 0 => 28 | 1 => 28 | 2 => 28 | 3 => 26 | _ => 26) (fun j_ => match j_ with | 0 => 0 | 1 => 1 | 2 => 2 | 3 => 3 | _ => 4) (fun j_ => match j_ with | 0 => 0 | 1 => 1 | 2 => 2 | 3 => 3 | _ => 4) (fun j_ => match j_ with | 0 => segs [.n 6 x1.re.val, .n 6 x1.im.val, .n 6 y1.re.val, .n 6 y1.im.val, .b false] | 1 => segs [.n 6 x2.re.val, .n 6 x2.im.val, .n 6 y2.re.val, .n 6 y2.im.val, .b false] | 2 => segs [.n 6 x3.re.val, .n 6 x3.im.val, .n 6 y3.re.val, .n 6 y3.im.val, .b false] | 3 => segs [.n 6 dx.re.val, .n 6 dx.im.val] | _ => segs [.n 6 dy.re.val, .n 6 dy.im.val]) (fun j_ => match j_ with | 0 => segs [.n 6 x1.re.val, .n 6 x1.im.val, .n 6 y1.re.val, .n 6 y1.im.val, .b false] | 1 => segs [.n 6 x2.re.val, .n 6 x2.im.val, .n 6 y2.re.val, .n 6 y2.im.val, .b false] | 2 => segs [.n 6 x3.re.val, .n 6 x3.im.val, .n 6 y3.re.val, .n 6 y3.im.val, .b false] | 3 => segs [.n 6 dx.re.val, .n 6 dx.im.val] | _ => segs [.n 6 dy.re.val, .n 6 dy.im.val]) [5, 6, 7, 8, 9, 10] (.inr ⟨rfl, by kernel_rfl⟩) (by kernel_rfl) rfl rfl rfl ?_ ?_)
  · refine GSteps.cons (gm_box 0 rfl (fun _ => rfl) (fun _ _ => rfl) (fun γ w h => ex_boxs (l := [.n 6 x1.re.val, .n 6 x1.im.val, .n 6 y1.re.val, .n 6 y1.im.val, .b false]) rfl) rfl rfl rfl) ?_
    refine GSteps.cons (gm_box 1 rfl (fun _ => rfl) (fun _ _ => rfl) (fun γ w h => ex_boxs (l := [.n 6 x2.re.val, .n 6 x2.im.val, .n 6 y2.re.val, .n 6 y2.im.val, .b false]) rfl) rfl rfl rfl) ?_
    refine GSteps.cons (gm_box 2 rfl (fun _ => rfl) (fun _ _ => rfl) (fun γ w h => ex_boxs (l := [.n 6 x3.re.val, .n 6 x3.im.val, .n 6 y3.re.val, .n 6 y3.im.val, .b false]) rfl) rfl rfl rfl) ?_
    refine GSteps.cons (gm_box 3 rfl (fun _ => rfl) (fun _ _ => rfl) (fun γ w h => ex_boxsn (K := 6) (l := [dx.re.val, dx.im.val]) rfl) rfl rfl rfl) ?_
    refine GSteps.cons (gm_box 4 rfl (fun _ => rfl) (fun _ _ => rfl) (fun γ w h => ex_boxsn (K := 6) (l := [dy.re.val, dy.im.val]) rfl) rfl rfl rfl) ?_
    refine GSteps.cons (gm_val (v := .bool false) rfl (fun _ => rfl) (fun _ => rfl) (fun γ w h => ex_assign _) rfl) ?_
    exact GSteps.nil
  intro γ1 w1 hb1 hB1 hn1
  refine th_r ?_
  have A2 : SB 28 w1 (γ1 0) [.n 6 x1.re.val, .n 6 x1.im.val, .n 6 y1.re.val, .n 6 y1.im.val, .b false] := (hB1 0 (by decide)).2
  have le2 := (hB1 0 (by decide)).1
  have A3 : SB 28 w1 (γ1 1) [.n 6 x2.re.val, .n 6 x2.im.val, .n 6 y2.re.val, .n 6 y2.im.val, .b false] := (hB1 1 (by decide)).2
  have le3 := (hB1 1 (by decide)).1
  have A4 : SB 28 w1 (γ1 2) [.n 6 x3.re.val, .n 6 x3.im.val, .n 6 y3.re.val, .n 6 y3.im.val, .b false] := (hB1 2 (by decide)).2
  have le4 := (hB1 2 (by decide)).1
  have A5 : SB 26 w1 (γ1 3) [.n 6 dx.re.val, .n 6 dx.im.val] := (hB1 3 (by decide)).2
  have le5 := (hB1 3 (by decide)).1
  have A6 : SB 26 w1 (γ1 4) [.n 6 dy.re.val, .n 6 dy.im.val] := (hB1 4 (by decide)).2
  have le6 := (hB1 4 (by decide)).1
  have HB7 := below_then (Below.refl w.heap.size w) hb1.out
  refine wp_seq (region_m (F := fun γ => ⟨List.toArray ((sv [.n 6 x1.re.val, .n 6 x1.im.val, .n 6 y1.re.val, .n 6 y1.im.val, .b false]) :: (sv [.n 6 x2.re.val, .n 6 x2.im.val, .n 6 y2.re.val, .n 6 y2.im.val, .b false]) :: (sv [.n 6 x3.re.val, .n 6 x3.im.val, .n 6 y3.re.val, .n 6 y3.im.val, .b false]) :: (nv 6 [dx.re.val, dx.im.val]) :: (nv 6 [dy.re.val, dy.im.val]) :: (.pointer (some ⟨(γ1 0), 0, none⟩)) :: (.pointer (some ⟨(γ1 1), 0, none⟩)) :: (.pointer (some ⟨(γ1 2), 0, none⟩)) :: (.pointer (some ⟨(γ1 3), 0, none⟩)) :: (.pointer (some ⟨(γ1 4), 0, none⟩)) :: (.bool false) :: (.pointer (some ⟨γ 0, 0, none⟩)) :: undef :: (.pointer (some ⟨(γ1 2), 0, none⟩)) :: (nv 6 [x3.re.val, x3.im.val]) :: (.pointer (some ⟨(γ1 0), 0, none⟩)) :: (nv 6 [x1.re.val, x1.im.val]) :: (.pointer (some ⟨(γ1 1), 0, none⟩)) :: (nv 6 [x2.re.val, x2.im.val]) :: (nv 6 [z1.re.val, z1.im.val]) :: (nv 6 [z2.re.val, z2.im.val]) :: undef :: undef :: undef :: undef :: undef :: undef :: undef :: undef :: undef :: undef :: undef :: undef :: undef :: undef :: undef :: undef :: undef :: undef :: undef :: undef :: undef :: undef :: undef :: undef :: undef :: []), []⟩) 1 (fun _ => 26) (fun _ => 8) (fun _ => 9) (fun _ => segs [.n 6 0, .n 6 0]) (fun _ => segs [.n 6 z2.re.val, .n 6 z2.im.val]) [13, 14, 15, 16, 17, 18, 19, 20, 11] (.inl ⟨rfl, by kernel_rfl⟩) (by kernel_rfl) rfl rfl rfl ?_ ?_)
  · refine GSteps.cons (gm_valg (fun γ => .pointer (some ⟨(γ1 2), 0, none⟩)) rfl (fun _ => rfl) (fun _ => rfl) (fun γ w h => ex_field faG2_0 rfl) rfl) ?_
    refine GSteps.cons (gm_val (v := nv 6 [x3.re.val, x3.im.val]) rfl (fun _ => rfl) (fun _ => rfl) (fun γ w h => ex_loadsn (K := 6) 0 2 (m := [x3.re.val, x3.im.val]) flFp2 rfl rfl (A4.keep h.out) rfl rfl) rfl) ?_
    refine GSteps.cons (gm_valg (fun γ => .pointer (some ⟨(γ1 0), 0, none⟩)) rfl (fun _ => rfl) (fun _ => rfl) (fun γ w h => ex_field faG2_0 rfl) rfl) ?_
    refine GSteps.cons (gm_val (v := nv 6 [x1.re.val, x1.im.val]) rfl (fun _ => rfl) (fun _ => rfl) (fun γ w h => ex_loadsn (K := 6) 0 2 (m := [x1.re.val, x1.im.val]) flFp2 rfl rfl (A2.keep h.out) rfl rfl) rfl) ?_
    refine GSteps.cons (gm_valg (fun γ => .pointer (some ⟨(γ1 1), 0, none⟩)) rfl (fun _ => rfl) (fun _ => rfl) (fun γ w h => ex_field faG2_0 rfl) rfl) ?_
    refine GSteps.cons (gm_val (v := nv 6 [x2.re.val, x2.im.val]) rfl (fun _ => rfl) (fun _ => rfl) (fun γ w h => ex_loadsn (K := 6) 0 2 (m := [x2.re.val, x2.im.val]) flFp2 rfl rfl (A3.keep h.out) rfl rfl) rfl) ?_
    refine GSteps.cons (gm_call (v := nv 6 [z1.re.val, z1.im.val]) rfl (fun _ => rfl) (fun _ => rfl) (fun γ w => ex_call (vs := [nv 6 [x1.re.val, x1.im.val], nv 6 [x2.re.val, x2.im.val]]) rfl Tryz.call29 rfl) (fun w h => r5Add_z x1 x2 z1 rfl rfl ez1 _) rfl) ?_
    refine GSteps.cons (gm_call (v := nv 6 [z2.re.val, z2.im.val]) rfl (fun _ => rfl) (fun _ => rfl) (fun γ w => ex_call (vs := [nv 6 [x3.re.val, x3.im.val], nv 6 [z1.re.val, z1.im.val]]) rfl Tryz.call29 rfl) (fun w h => r5Add_z x3 z1 z2 rfl rfl ez2 _) rfl) ?_
    refine GSteps.cons (gm_new 0 rfl (fun _ => rfl) (fun _ _ => rfl) (fun γ w => ex_allocsn (K := 6) (l := [0, 0]) zFp2) rfl (by kernel_rfl)) ?_
    refine GSteps.cons (gm_store 0 rfl rfl (fun _ => rfl) (len_segs (l := [.n 6 z2.re.val, .n 6 z2.im.val]) (l' := [.n 6 0, .n 6 0]) rfl) (fun γ w h => ex_stores 0 2 (l := [.n 6 0, .n 6 0]) (m := [.n 6 z2.re.val, .n 6 z2.im.val]) flFp2.2 rfl rfl rfl (nv_cells 6 [z2.re.val, z2.im.val]) h rfl rfl) rfl rfl (by kernel_rfl)) ?_
    exact GSteps.nil
  intro γ8 w8 hb8 hB8 _
  refine th_r ?_
  have A9 := A2.keep hb8.out
  have A10 := A3.keep hb8.out
  have A11 := A4.keep hb8.out
  have A12 := A5.keep hb8.out
  have A13 := A6.keep hb8.out
  have A14 : SB 26 w8 (γ8 0) [.n 6 z2.re.val, .n 6 z2.im.val] := (hB8 0 (by decide)).2
  have le14 := (hB8 0 (by decide)).1
  have HB15 := below_then HB7 hb8.out
  refine wp_seq ?_
  refine wp_seq (region_m (F := fun _ => ⟨List.toArray ((sv [.n 6 x1.re.val, .n 6 x1.im.val, .n 6 y1.re.val, .n 6 y1.im.val, .b false]) :: (sv [.n 6 x2.re.val, .n 6 x2.im.val, .n 6 y2.re.val, .n 6 y2.im.val, .b false]) :: (sv [.n 6 x3.re.val, .n 6 x3.im.val, .n 6 y3.re.val, .n 6 y3.im.val, .b false]) :: (nv 6 [dx.re.val, dx.im.val]) :: (nv 6 [dy.re.val, dy.im.val]) :: (.pointer (some ⟨(γ1 0), 0, none⟩)) :: (.pointer (some ⟨(γ1 1), 0, none⟩)) :: (.pointer (some ⟨(γ1 2), 0, none⟩)) :: (.pointer (some ⟨(γ1 3), 0, none⟩)) :: (.pointer (some ⟨(γ1 4), 0, none⟩)) :: (.bool false) :: (.pointer (some ⟨(γ8 0), 0, none⟩)) :: undef :: (.pointer (some ⟨(γ1 2), 0, none⟩)) :: (nv 6 [x3.re.val, x3.im.val]) :: (.pointer (some ⟨(γ1 0), 0, none⟩)) :: (nv 6 [x1.re.val, x1.im.val]) :: (.pointer (some ⟨(γ1 1), 0, none⟩)) :: (nv 6 [x2.re.val, x2.im.val]) :: (nv 6 [z1.re.val, z1.im.val]) :: (nv 6 [z2.re.val, z2.im.val]) :: (nv 6 [z2.re.val, z2.im.val]) :: (nv 6 [dx.re.val, dx.im.val]) :: (nv 6 [dx.re.val, dx.im.val]) :: (nv 6 [z3.re.val, z3.im.val]) :: (nv 6 [z4.re.val, z4.im.val]) :: (nv 6 [dy.re.val, dy.im.val]) :: (nv 6 [dy.re.val, dy.im.val]) :: (nv 6 [z5.re.val, z5.im.val]) :: (.bool false) :: undef :: undef :: undef :: undef :: undef :: undef :: undef :: undef :: undef :: undef :: undef :: undef :: undef :: undef :: undef :: undef :: []), []⟩) 0 (fun _ => 0) (fun _ => 0) (fun _ => 0) (fun _ => []) (fun _ => []) [21, 22, 23, 24, 25, 26, 27, 28, 29] (.inl ⟨rfl, by kernel_rfl⟩) (by kernel_rfl) rfl rfl rfl ?_ ?_)
  · refine GSteps.cons (gm_val (v := nv 6 [z2.re.val, z2.im.val]) rfl (fun _ => rfl) (fun _ => rfl) (fun γ w h => ex_loadsn (K := 6) 0 2 (m := [z2.re.val, z2.im.val]) flFp2 rfl rfl (A14.keep h.out) rfl rfl) rfl) ?_
    refine GSteps.cons (gm_val (v := nv 6 [dx.re.val, dx.im.val]) rfl (fun _ => rfl) (fun _ => rfl) (fun γ w h => ex_loadsn (K := 6) 0 2 (m := [dx.re.val, dx.im.val]) flFp2 rfl rfl (A12.keep h.out) rfl rfl) rfl) ?_
    refine GSteps.cons (gm_val (v := nv 6 [dx.re.val, dx.im.val]) rfl (fun _ => rfl) (fun _ => rfl) (fun γ w h => ex_loadsn (K := 6) 0 2 (m := [dx.re.val, dx.im.val]) flFp2 rfl rfl (A12.keep h.out) rfl rfl) rfl) ?_
    refine GSteps.cons (gm_call (v := nv 6 [z3.re.val, z3.im.val]) rfl (fun _ => rfl) (fun _ => rfl) (fun γ w => ex_call (vs := [nv 6 [dx.re.val, dx.im.val], nv 6 [dx.re.val, dx.im.val]]) rfl Tryz.call28 rfl) (fun w h => r5Mul_z dx dx z3 rfl rfl ez3 _) rfl) ?_
    refine GSteps.cons (gm_call (v := nv 6 [z4.re.val, z4.im.val]) rfl (fun _ => rfl) (fun _ => rfl) (fun γ w => ex_call (vs := [nv 6 [z2.re.val, z2.im.val], nv 6 [z3.re.val, z3.im.val]]) rfl Tryz.call28 rfl) (fun w h => r5Mul_z z2 z3 z4 rfl rfl ez4 _) rfl) ?_
    refine GSteps.cons (gm_val (v := nv 6 [dy.re.val, dy.im.val]) rfl (fun _ => rfl) (fun _ => rfl) (fun γ w h => ex_loadsn (K := 6) 0 2 (m := [dy.re.val, dy.im.val]) flFp2 rfl rfl (A13.keep h.out) rfl rfl) rfl) ?_
    refine GSteps.cons (gm_val (v := nv 6 [dy.re.val, dy.im.val]) rfl (fun _ => rfl) (fun _ => rfl) (fun γ w h => ex_loadsn (K := 6) 0 2 (m := [dy.re.val, dy.im.val]) flFp2 rfl rfl (A13.keep h.out) rfl rfl) rfl) ?_
    refine GSteps.cons (gm_call (v := nv 6 [z5.re.val, z5.im.val]) rfl (fun _ => rfl) (fun _ => rfl) (fun γ w => ex_call (vs := [nv 6 [dy.re.val, dy.im.val], nv 6 [dy.re.val, dy.im.val]]) rfl Tryz.call28 rfl) (fun w h => r5Mul_z dy dy z5 rfl rfl ez5 _) rfl) ?_
    refine GSteps.cons (gm_val (v := .bool false) rfl (fun _ => rfl) (fun _ => rfl) (fun γ w h => ex_neqzq z4 z5 rfl rfl rfl rfl true ⟨fun _ => (by subst ez5 ez4 ez3 ez2 ez1; exact h1), fun _ => rfl⟩) rfl) ?_
    exact GSteps.nil
  intro _ w16 hb16 _ _
  refine th_r ?_
  have A17 := A9.keep hb16.out
  have A18 := A10.keep hb16.out
  have A19 := A11.keep hb16.out
  have A20 := A12.keep hb16.out
  have A21 := A13.keep hb16.out
  have A22 := A14.keep hb16.out
  have HB23 := below_then HB15 hb16.out
  refine wp_cond_false rfl ?_
  refine wp_skip ?_
  refine th_r ?_
  refine wp_seq (region_m (F := fun γ => ⟨List.toArray ((sv [.n 6 x1.re.val, .n 6 x1.im.val, .n 6 y1.re.val, .n 6 y1.im.val, .b false]) :: (sv [.n 6 x2.re.val, .n 6 x2.im.val, .n 6 y2.re.val, .n 6 y2.im.val, .b false]) :: (sv [.n 6 x3.re.val, .n 6 x3.im.val, .n 6 y3.re.val, .n 6 y3.im.val, .b false]) :: (nv 6 [dx.re.val, dx.im.val]) :: (nv 6 [dy.re.val, dy.im.val]) :: (.pointer (some ⟨(γ1 0), 0, none⟩)) :: (.pointer (some ⟨(γ1 1), 0, none⟩)) :: (.pointer (some ⟨(γ1 2), 0, none⟩)) :: (.pointer (some ⟨(γ1 3), 0, none⟩)) :: (.pointer (some ⟨(γ1 4), 0, none⟩)) :: (.bool false) :: (.pointer (some ⟨(γ8 0), 0, none⟩)) :: (.pointer (some ⟨γ 0, 0, none⟩)) :: (.pointer (some ⟨(γ1 2), 0, none⟩)) :: (nv 6 [x3.re.val, x3.im.val]) :: (.pointer (some ⟨(γ1 0), 0, none⟩)) :: (nv 6 [x1.re.val, x1.im.val]) :: (.pointer (some ⟨(γ1 1), 0, none⟩)) :: (nv 6 [x2.re.val, x2.im.val]) :: (nv 6 [z1.re.val, z1.im.val]) :: (nv 6 [z2.re.val, z2.im.val]) :: (nv 6 [z2.re.val, z2.im.val]) :: (nv 6 [dx.re.val, dx.im.val]) :: (nv 6 [dx.re.val, dx.im.val]) :: (nv 6 [z3.re.val, z3.im.val]) :: (nv 6 [z4.re.val, z4.im.val]) :: (nv 6 [dy.re.val, dy.im.val]) :: (nv 6 [dy.re.val, dy.im.val]) :: (nv 6 [z5.re.val, z5.im.val]) :: (.bool false) :: (.pointer (some ⟨(γ1 2), 12, none⟩)) :: (nv 6 [y3.re.val, y3.im.val]) :: (.pointer (some ⟨(γ1 0), 12, none⟩)) :: (nv 6 [y1.re.val, y1.im.val]) :: (nv 6 [z6.re.val, z6.im.val]) :: (nv 6 [dx.re.val, dx.im.val]) :: (nv 6 [z7.re.val, z7.im.val]) :: undef :: undef :: undef :: undef :: undef :: undef :: undef :: undef :: undef :: []), []⟩) 1 (fun _ => 26) (fun _ => 7) (fun _ => 8) (fun _ => segs [.n 6 0, .n 6 0]) (fun _ => segs [.n 6 z7.re.val, .n 6 z7.im.val]) [30, 31, 32, 33, 34, 35, 36, 12] (.inl ⟨rfl, by kernel_rfl⟩) (by kernel_rfl) rfl rfl rfl ?_ ?_)
  · refine GSteps.cons (gm_valg (fun γ => .pointer (some ⟨(γ1 2), 12, none⟩)) rfl (fun _ => rfl) (fun _ => rfl) (fun γ w h => ex_field faG2_1 rfl) rfl) ?_
    refine GSteps.cons (gm_val (v := nv 6 [y3.re.val, y3.im.val]) rfl (fun _ => rfl) (fun _ => rfl) (fun γ w h => ex_loadsn (K := 6) 2 2 (m := [y3.re.val, y3.im.val]) flFp2 rfl rfl (A19.keep h.out) rfl rfl) rfl) ?_
    refine GSteps.cons (gm_valg (fun γ => .pointer (some ⟨(γ1 0), 12, none⟩)) rfl (fun _ => rfl) (fun _ => rfl) (fun γ w h => ex_field faG2_1 rfl) rfl) ?_
    refine GSteps.cons (gm_val (v := nv 6 [y1.re.val, y1.im.val]) rfl (fun _ => rfl) (fun _ => rfl) (fun γ w h => ex_loadsn (K := 6) 2 2 (m := [y1.re.val, y1.im.val]) flFp2 rfl rfl (A17.keep h.out) rfl rfl) rfl) ?_
    refine GSteps.cons (gm_call (v := nv 6 [z6.re.val, z6.im.val]) rfl (fun _ => rfl) (fun _ => rfl) (fun γ w => ex_call (vs := [nv 6 [y3.re.val, y3.im.val], nv 6 [y1.re.val, y1.im.val]]) rfl Tryz.call29 rfl) (fun w h => r5Add_z y3 y1 z6 rfl rfl ez6 _) rfl) ?_
    refine GSteps.cons (gm_val (v := nv 6 [dx.re.val, dx.im.val]) rfl (fun _ => rfl) (fun _ => rfl) (fun γ w h => ex_loadsn (K := 6) 0 2 (m := [dx.re.val, dx.im.val]) flFp2 rfl rfl (A20.keep h.out) rfl rfl) rfl) ?_
    refine GSteps.cons (gm_call (v := nv 6 [z7.re.val, z7.im.val]) rfl (fun _ => rfl) (fun _ => rfl) (fun γ w => ex_call (vs := [nv 6 [z6.re.val, z6.im.val], nv 6 [dx.re.val, dx.im.val]]) rfl Tryz.call28 rfl) (fun w h => r5Mul_z z6 dx z7 rfl rfl ez7 _) rfl) ?_
    refine GSteps.cons (gm_new 0 rfl (fun _ => rfl) (fun _ _ => rfl) (fun γ w => ex_allocsn (K := 6) (l := [0, 0]) zFp2) rfl (by kernel_rfl)) ?_
    refine GSteps.cons (gm_store 0 rfl rfl (fun _ => rfl) (len_segs (l := [.n 6 z7.re.val, .n 6 z7.im.val]) (l' := [.n 6 0, .n 6 0]) rfl) (fun γ w h => ex_stores 0 2 (l := [.n 6 0, .n 6 0]) (m := [.n 6 z7.re.val, .n 6 z7.im.val]) flFp2.2 rfl rfl rfl (nv_cells 6 [z7.re.val, z7.im.val]) h rfl rfl) rfl rfl (by kernel_rfl)) ?_
    exact GSteps.nil
  intro γ24 w24 hb24 hB24 _
  refine th_r ?_
  have A25 := A17.keep hb24.out
  have A26 := A18.keep hb24.out
  have A27 := A19.keep hb24.out
  have A28 := A20.keep hb24.out
  have A29 := A21.keep hb24.out
  have A30 := A22.keep hb24.out
  have A31 : SB 26 w24 (γ24 0) [.n 6 z7.re.val, .n 6 z7.im.val] := (hB24 0 (by decide)).2
  have le31 := (hB24 0 (by decide)).1
  have HB32 := below_then HB23 hb24.out
  refine wp_seq (region_m (F := fun _ => ⟨List.toArray ((sv [.n 6 x1.re.val, .n 6 x1.im.val, .n 6 y1.re.val, .n 6 y1.im.val, .b false]) :: (sv [.n 6 x2.re.val, .n 6 x2.im.val, .n 6 y2.re.val, .n 6 y2.im.val, .b false]) :: (sv [.n 6 x3.re.val, .n 6 x3.im.val, .n 6 y3.re.val, .n 6 y3.im.val, .b false]) :: (nv 6 [dx.re.val, dx.im.val]) :: (nv 6 [dy.re.val, dy.im.val]) :: (.pointer (some ⟨(γ1 0), 0, none⟩)) :: (.pointer (some ⟨(γ1 1), 0, none⟩)) :: (.pointer (some ⟨(γ1 2), 0, none⟩)) :: (.pointer (some ⟨(γ1 3), 0, none⟩)) :: (.pointer (some ⟨(γ1 4), 0, none⟩)) :: (.bool true) :: (.pointer (some ⟨(γ8 0), 0, none⟩)) :: (.pointer (some ⟨(γ24 0), 0, none⟩)) :: (.pointer (some ⟨(γ1 2), 0, none⟩)) :: (nv 6 [x3.re.val, x3.im.val]) :: (.pointer (some ⟨(γ1 0), 0, none⟩)) :: (nv 6 [x1.re.val, x1.im.val]) :: (.pointer (some ⟨(γ1 1), 0, none⟩)) :: (nv 6 [x2.re.val, x2.im.val]) :: (nv 6 [z1.re.val, z1.im.val]) :: (nv 6 [z2.re.val, z2.im.val]) :: (nv 6 [z2.re.val, z2.im.val]) :: (nv 6 [dx.re.val, dx.im.val]) :: (nv 6 [dx.re.val, dx.im.val]) :: (nv 6 [z3.re.val, z3.im.val]) :: (nv 6 [z4.re.val, z4.im.val]) :: (nv 6 [dy.re.val, dy.im.val]) :: (nv 6 [dy.re.val, dy.im.val]) :: (nv 6 [z5.re.val, z5.im.val]) :: (.bool false) :: (.pointer (some ⟨(γ1 2), 12, none⟩)) :: (nv 6 [y3.re.val, y3.im.val]) :: (.pointer (some ⟨(γ1 0), 12, none⟩)) :: (nv 6 [y1.re.val, y1.im.val]) :: (nv 6 [z6.re.val, z6.im.val]) :: (nv 6 [dx.re.val, dx.im.val]) :: (nv 6 [z7.re.val, z7.im.val]) :: (nv 6 [z7.re.val, z7.im.val]) :: (nv 6 [dy.re.val, dy.im.val]) :: (.pointer (some ⟨(γ1 0), 0, none⟩)) :: (nv 6 [x1.re.val, x1.im.val]) :: (.pointer (some ⟨(γ1 2), 0, none⟩)) :: (nv 6 [x3.re.val, x3.im.val]) :: (nv 6 [z8.re.val, z8.im.val]) :: (nv 6 [z9.re.val, z9.im.val]) :: (.bool true) :: []), []⟩) 0 (fun _ => 0) (fun _ => 0) (fun _ => 0) (fun _ => []) (fun _ => []) [37, 38, 39, 40, 41, 42, 43, 44, 45, 10] (.inl ⟨rfl, by kernel_rfl⟩) (by kernel_rfl) rfl rfl rfl ?_ ?_)
  · refine GSteps.cons (gm_val (v := nv 6 [z7.re.val, z7.im.val]) rfl (fun _ => rfl) (fun _ => rfl) (fun γ w h => ex_loadsn (K := 6) 0 2 (m := [z7.re.val, z7.im.val]) flFp2 rfl rfl (A31.keep h.out) rfl rfl) rfl) ?_
    refine GSteps.cons (gm_val (v := nv 6 [dy.re.val, dy.im.val]) rfl (fun _ => rfl) (fun _ => rfl) (fun γ w h => ex_loadsn (K := 6) 0 2 (m := [dy.re.val, dy.im.val]) flFp2 rfl rfl (A29.keep h.out) rfl rfl) rfl) ?_
    refine GSteps.cons (gm_valg (fun γ => .pointer (some ⟨(γ1 0), 0, none⟩)) rfl (fun _ => rfl) (fun _ => rfl) (fun γ w h => ex_field faG2_0 rfl) rfl) ?_
    refine GSteps.cons (gm_val (v := nv 6 [x1.re.val, x1.im.val]) rfl (fun _ => rfl) (fun _ => rfl) (fun γ w h => ex_loadsn (K := 6) 0 2 (m := [x1.re.val, x1.im.val]) flFp2 rfl rfl (A25.keep h.out) rfl rfl) rfl) ?_
    refine GSteps.cons (gm_valg (fun γ => .pointer (some ⟨(γ1 2), 0, none⟩)) rfl (fun _ => rfl) (fun _ => rfl) (fun γ w h => ex_field faG2_0 rfl) rfl) ?_
    refine GSteps.cons (gm_val (v := nv 6 [x3.re.val, x3.im.val]) rfl (fun _ => rfl) (fun _ => rfl) (fun γ w h => ex_loadsn (K := 6) 0 2 (m := [x3.re.val, x3.im.val]) flFp2 rfl rfl (A27.keep h.out) rfl rfl) rfl) ?_
    refine GSteps.cons (gm_call (v := nv 6 [z8.re.val, z8.im.val]) rfl (fun _ => rfl) (fun _ => rfl) (fun γ w => ex_call (vs := [nv 6 [x1.re.val, x1.im.val], nv 6 [x3.re.val, x3.im.val]]) rfl Tryz.call35 rfl) (fun w h => r5Sub_z x1 x3 z8 rfl rfl ez8 _) rfl) ?_
    refine GSteps.cons (gm_call (v := nv 6 [z9.re.val, z9.im.val]) rfl (fun _ => rfl) (fun _ => rfl) (fun γ w => ex_call (vs := [nv 6 [dy.re.val, dy.im.val], nv 6 [z8.re.val, z8.im.val]]) rfl Tryz.call28 rfl) (fun w h => r5Mul_z dy z8 z9 rfl rfl ez9 _) rfl) ?_
    refine GSteps.cons (gm_val (v := .bool true) rfl (fun _ => rfl) (fun _ => rfl) (fun γ w h => ex_eqzq z7 z9 rfl rfl rfl rfl true ⟨fun _ => (by subst ez9 ez8 ez7 ez6 ez5 ez4 ez3 ez2 ez1; exact h2), fun _ => rfl⟩) rfl) ?_
    refine GSteps.cons (gm_val (v := .bool true) rfl (fun _ => rfl) (fun _ => rfl) (fun γ w h => ex_assign _) rfl) ?_
    exact GSteps.nil
  intro _ w33 hb33 _ _
  refine th_r ?_
  have A34 := A25.keep hb33.out
  have A35 := A26.keep hb33.out
  have A36 := A27.keep hb33.out
  have A37 := A28.keep hb33.out
  have A38 := A29.keep hb33.out
  have A39 := A30.keep hb33.out
  have A40 := A31.keep hb33.out
  have HB41 := below_then HB32 hb33.out
  exact wp_ret (bodyPost_ret (ret1 Tryz.results33 (res_tmp rfl)) rfl ⟨rfl, HB41⟩)

set_option maxRecDepth 20000 in
set_option maxHeartbeats 4000000 in
theorem r9Sum_inf1 (Q : Pt Zq) (w : World) :
    Calls Tryz.prog 12 #[sv [.n 6 0, .n 6 0, .n 6 0, .n 6 0, .b true], sv [.n 6 (bx0 Q), .n 6 (bx1 Q), .n 6 (by0 Q), .n 6 (by1 Q), .b (bi Q)], sv [.n 6 (bx0 Q), .n 6 (bx1 Q), .n 6 (by0 Q), .n 6 (by1 Q), .b (bi Q)]] w (Is (.bool true) w) := by
  go_enter Tryz.func12, Tryz.ntmps12
  refine wp_seq (region_m (F := fun γ => ⟨List.toArray ((sv [.n 6 0, .n 6 0, .n 6 0, .n 6 0, .b true]) :: (sv [.n 6 (bx0 Q), .n 6 (bx1 Q), .n 6 (by0 Q), .n 6 (by1 Q), .b (bi Q)]) :: (sv [.n 6 (bx0 Q), .n 6 (bx1 Q), .n 6 (by0 Q), .n 6 (by1 Q), .b (bi Q)]) :: (.pointer (some ⟨γ 0, 0, none⟩)) :: (.pointer (some ⟨γ 1, 0, none⟩)) :: (.pointer (some ⟨γ 2, 0, none⟩)) :: (.bool false) :: undef :: undef :: undef :: undef :: undef :: undef :: undef :: undef :: undef :: undef :: undef :: undef :: undef :: undef :: undef :: undef :: undef :: undef :: undef :: undef :: undef :: undef :: undef :: undef :: undef :: undef :: undef :: undef :: undef :: undef :: undef :: undef :: undef :: undef :: undef :: undef :: undef :: undef :: undef :: undef :: undef :: undef :: undef :: undef :: undef :: undef :: undef :: undef :: undef :: undef :: undef :: undef :: undef :: undef :: undef :: undef :: undef :: undef :: undef :: undef :: undef :: undef :: undef :: undef :: undef :: undef :: undef :: []), []⟩) 3 (fun j_ => match j_ with | 0 => 28 | 1 => 28 | _ => 28) (fun j_ => match j_ with | 0 => 0 | 1 => 1 | _ => 2) (fun j_ => match j_ with | 0 => 0 | 1 => 1 | _ => 2) (fun j_ => match j_ with | 0 => segs [.n 6 0, .n 6 0, .n 6 0, .n 6 0, .b true] | 1 => segs [.n 6 (bx0 Q), .n 6 (bx1 Q), .n 6 (by0 Q), .n 6 (by1 Q), .b (bi Q)] | _ => segs [.n 6 (bx0 Q), .n 6 (bx1 Q), .n 6 (by0 Q), .n 6 (by1 Q), .b (bi Q)]) (fun j_ => match j_ with | 0 => segs [.n 6 0, .n 6 0, .n 6 0, .n 6 0, .b true] | 1 => segs [.n 6 (bx0 Q), .n 6 (bx1 Q), .n 6 (by0 Q), .n 6 (by1 Q), .b (bi Q)] | _ => segs [.n 6 (bx0 Q), .n 6 (bx1 Q), .n 6 (by0 Q), .n 6 (by1 Q), .b (bi Q)]) [3, 4, 5, 6] (.inr ⟨rfl, by kernel_rfl⟩) (by kernel_rfl) rfl rfl rfl ?_ ?_)
  · refine GSteps.cons (gm_box 0 rfl (fun _ => rfl) (fun _ _ => rfl) (fun γ w h => ex_boxs (l := [.n 6 0, .n 6 0, .n 6 0, .n 6 0, .b true]) rfl) rfl rfl rfl) ?_
    refine GSteps.cons (gm_box 1 rfl (fun _ => rfl) (fun _ _ => rfl) (fun γ w h => ex_boxs (l := [.n 6 (bx0 Q), .n 6 (bx1 Q), .n 6 (by0 Q), .n 6 (by1 Q), .b (bi Q)]) rfl) rfl rfl rfl) ?_
    refine GSteps.cons (gm_box 2 rfl (fun _ => rfl) (fun _ _ => rfl) (fun γ w h => ex_boxs (l := [.n 6 (bx0 Q), .n 6 (bx1 Q), .n 6 (by0 Q), .n 6 (by1 Q), .b (bi Q)]) rfl) rfl rfl rfl) ?_
    refine GSteps.cons (gm_val (v := .bool false) rfl (fun _ => rfl) (fun _ => rfl) (fun γ w h => ex_assign _) rfl) ?_
    exact GSteps.nil
  intro γ1 w1 hb1 hB1 hn1
  refine th_r ?_
  have A2 : SB 28 w1 (γ1 0) [.n 6 0, .n 6 0, .n 6 0, .n 6 0, .b true] := (hB1 0 (by decide)).2
  have le2 := (hB1 0 (by decide)).1
  have A3 : SB 28 w1 (γ1 1) [.n 6 (bx0 Q), .n 6 (bx1 Q), .n 6 (by0 Q), .n 6 (by1 Q), .b (bi Q)] := (hB1 1 (by decide)).2
  have le3 := (hB1 1 (by decide)).1
  have A4 : SB 28 w1 (γ1 2) [.n 6 (bx0 Q), .n 6 (bx1 Q), .n 6 (by0 Q), .n 6 (by1 Q), .b (bi Q)] := (hB1 2 (by decide)).2
  have le4 := (hB1 2 (by decide)).1
  have HB5 := below_then (Below.refl w.heap.size w) hb1.out
  refine wp_seq ?_
  refine wp_seq (region_m (F := fun _ => ⟨List.toArray ((sv [.n 6 0, .n 6 0, .n 6 0, .n 6 0, .b true]) :: (sv [.n 6 (bx0 Q), .n 6 (bx1 Q), .n 6 (by0 Q), .n 6 (by1 Q), .b (bi Q)]) :: (sv [.n 6 (bx0 Q), .n 6 (bx1 Q), .n 6 (by0 Q), .n 6 (by1 Q), .b (bi Q)]) :: (.pointer (some ⟨(γ1 0), 0, none⟩)) :: (.pointer (some ⟨(γ1 1), 0, none⟩)) :: (.pointer (some ⟨(γ1 2), 0, none⟩)) :: (.bool false) :: (.pointer (some ⟨(γ1 0), 24, none⟩)) :: (.bool true) :: undef :: undef :: undef :: undef :: undef :: undef :: undef :: undef :: undef :: undef :: undef :: undef :: undef :: undef :: undef :: undef :: undef :: undef :: undef :: undef :: undef :: undef :: undef :: undef :: undef :: undef :: undef :: undef :: undef :: undef :: undef :: undef :: undef :: undef :: undef :: undef :: undef :: undef :: undef :: undef :: undef :: undef :: undef :: undef :: undef :: undef :: undef :: undef :: undef :: undef :: undef :: undef :: undef :: undef :: undef :: undef :: undef :: undef :: undef :: undef :: undef :: undef :: undef :: undef :: undef :: []), []⟩) 0 (fun _ => 0) (fun _ => 0) (fun _ => 0) (fun _ => []) (fun _ => []) [7, 8] (.inr ⟨rfl, by kernel_rfl⟩) (by kernel_rfl) rfl rfl rfl ?_ ?_)
  · refine GSteps.cons (gm_valg (fun γ => .pointer (some ⟨(γ1 0), 24, none⟩)) rfl (fun _ => rfl) (fun _ => rfl) (fun γ w h => ex_field faG2_2 rfl) rfl) ?_
    refine GSteps.cons (gm_val (v := .bool true) rfl (fun _ => rfl) (fun _ => rfl) (fun γ w h => ex_load1 4 (s := .b true) (v := .bool true) sgBool rfl (A2.keep h.out) rfl rfl rfl) rfl) ?_
    exact GSteps.nil
  intro _ w6 hb6 _ _
  refine th_r ?_
  have A7 := A2.keep hb6.out
  have A8 := A3.keep hb6.out
  have A9 := A4.keep hb6.out
  have HB10 := below_then HB5 hb6.out
  refine wp_cond_true rfl ?_
  refine wp_seq (region_m (F := fun _ => ⟨List.toArray ((sv [.n 6 0, .n 6 0, .n 6 0, .n 6 0, .b true]) :: (sv [.n 6 (bx0 Q), .n 6 (bx1 Q), .n 6 (by0 Q), .n 6 (by1 Q), .b (bi Q)]) :: (sv [.n 6 (bx0 Q), .n 6 (bx1 Q), .n 6 (by0 Q), .n 6 (by1 Q), .b (bi Q)]) :: (.pointer (some ⟨(γ1 0), 0, none⟩)) :: (.pointer (some ⟨(γ1 1), 0, none⟩)) :: (.pointer (some ⟨(γ1 2), 0, none⟩)) :: (.bool true) :: (.pointer (some ⟨(γ1 0), 24, none⟩)) :: (.bool true) :: (sv [.n 6 (bx0 Q), .n 6 (bx1 Q), .n 6 (by0 Q), .n 6 (by1 Q), .b (bi Q)]) :: (sv [.n 6 (bx0 Q), .n 6 (bx1 Q), .n 6 (by0 Q), .n 6 (by1 Q), .b (bi Q)]) :: (.bool true) :: undef :: undef :: undef :: undef :: undef :: undef :: undef :: undef :: undef :: undef :: undef :: undef :: undef :: undef :: undef :: undef :: undef :: undef :: undef :: undef :: undef :: undef :: undef :: undef :: undef :: undef :: undef :: undef :: undef :: undef :: undef :: undef :: undef :: undef :: undef :: undef :: undef :: undef :: undef :: undef :: undef :: undef :: undef :: undef :: undef :: undef :: undef :: undef :: undef :: undef :: undef :: undef :: undef :: undef :: undef :: undef :: undef :: undef :: undef :: undef :: undef :: undef :: []), []⟩) 0 (fun _ => 0) (fun _ => 0) (fun _ => 0) (fun _ => []) (fun _ => []) [9, 10, 11, 6] (.inr ⟨rfl, by kernel_rfl⟩) (by kernel_rfl) rfl rfl rfl ?_ ?_)
  · refine GSteps.cons (gm_val (v := sv [.n 6 (bx0 Q), .n 6 (bx1 Q), .n 6 (by0 Q), .n 6 (by1 Q), .b (bi Q)]) rfl (fun _ => rfl) (fun _ => rfl) (fun γ w h => ex_loads 0 5 (m := [.n 6 (bx0 Q), .n 6 (bx1 Q), .n 6 (by0 Q), .n 6 (by1 Q), .b (bi Q)]) flG2 rfl rfl (A9.keep h.out) rfl rfl) rfl) ?_
    refine GSteps.cons (gm_val (v := sv [.n 6 (bx0 Q), .n 6 (bx1 Q), .n 6 (by0 Q), .n 6 (by1 Q), .b (bi Q)]) rfl (fun _ => rfl) (fun _ => rfl) (fun γ w h => ex_loads 0 5 (m := [.n 6 (bx0 Q), .n 6 (bx1 Q), .n 6 (by0 Q), .n 6 (by1 Q), .b (bi Q)]) flG2 rfl rfl (A8.keep h.out) rfl rfl) rfl) ?_
    refine GSteps.cons (gm_val (v := .bool true) rfl (fun _ => rfl) (fun _ => rfl) (fun γ w h => ex_eqs gdG2 eqG2 rfl rfl rfl (shG2_of (bx0_B Q) (bx1_B Q) (by0_B Q) (by1_B Q)) (shG2_of (bx0_B Q) (bx1_B Q) (by0_B Q) (by1_B Q)) true (by simp)) rfl) ?_
    refine GSteps.cons (gm_val (v := .bool true) rfl (fun _ => rfl) (fun _ => rfl) (fun γ w h => ex_assign _) rfl) ?_
    exact GSteps.nil
  intro _ w11 hb11 _ _
  refine th_r ?_
  have A12 := A7.keep hb11.out
  have A13 := A8.keep hb11.out
  have A14 := A9.keep hb11.out
  have HB15 := below_then HB10 hb11.out
  exact wp_ret (th_ret (bodyPost_ret (ret1 Tryz.results12 (res_tmp rfl)) rfl ⟨rfl, HB15⟩))

set_option maxRecDepth 20000 in
set_option maxHeartbeats 4000000 in
theorem r9Sum_inf2 (x y : Zq) (w : World) :
    Calls Tryz.prog 12 #[sv [.n 6 x.re.val, .n 6 x.im.val, .n 6 y.re.val, .n 6 y.im.val, .b false], sv [.n 6 0, .n 6 0, .n 6 0, .n 6 0, .b true], sv [.n 6 x.re.val, .n 6 x.im.val, .n 6 y.re.val, .n 6 y.im.val, .b false]] w (Is (.bool true) w) := by
  go_enter Tryz.func12, Tryz.ntmps12
  refine wp_seq (region_m (F := fun γ => ⟨List.toArray ((sv [.n 6 x.re.val, .n 6 x.im.val, .n 6 y.re.val, .n 6 y.im.val, .b false]) :: (sv [.n 6 0, .n 6 0, .n 6 0, .n 6 0, .b true]) :: (sv [.n 6 x.re.val, .n 6 x.im.val, .n 6 y.re.val, .n 6 y.im.val, .b false]) :: (.pointer (some ⟨γ 0, 0, none⟩)) :: (.pointer (some ⟨γ 1, 0, none⟩)) :: (.pointer (some ⟨γ 2, 0, none⟩)) :: (.bool false) :: undef :: undef :: undef :: undef :: undef :: undef :: undef :: undef :: undef :: undef :: undef :: undef :: undef :: undef :: undef :: undef :: undef :: undef :: undef :: undef :: undef :: undef :: undef :: undef :: undef :: undef :: undef :: undef :: undef :: undef :: undef :: undef :: undef :: undef :: undef :: undef :: undef :: undef :: undef :: undef :: undef :: undef :: undef :: undef :: undef :: undef :: undef :: undef :: undef :: undef :: undef :: undef :: undef :: undef :: undef :: undef :: undef :: undef :: undef :: undef :: undef :: undef :: undef :: undef :: undef :: undef :: undef :: []), []⟩) 3 (fun j_ => match j_ with | 0 => 28 | 1 => 28 | _ => 28) (fun j_ => match j_ with | 0 => 0 | 1 => 1 | _ => 2) (fun j_ => match j_ with | 0 => 0 | 1 => 1 | _ => 2) (fun j_ => match j_ with | 0 => segs [.n 6 x.re.val, .n 6 x.im.val, .n 6 y.re.val, .n 6 y.im.val, .b false] | 1 => segs [.n 6 0, .n 6 0, .n 6 0, .n 6 0, .b true] | _ => segs [.n 6 x.re.val, .n 6 x.im.val, .n 6 y.re.val, .n 6 y.im.val, .b false]) (fun j_ => match j_ with | 0 => segs [.n 6 x.re.val, .n 6 x.im.val, .n 6 y.re.val, .n 6 y.im.val, .b false] | 1 => segs [.n 6 0, .n 6 0, .n 6 0, .n 6 0, .b true] | _ => segs [.n 6 x.re.val, .n 6 x.im.val, .n 6 y.re.val, .n 6 y.im.val, .b false]) [3, 4, 5, 6] (.inr ⟨rfl, by kernel_rfl⟩) (by kernel_rfl) rfl rfl rfl ?_ ?_)
  · refine GSteps.cons (gm_box 0 rfl (fun _ => rfl) (fun _ _ => rfl) (fun γ w h => ex_boxs (l := [.n 6 x.re.val, .n 6 x.im.val, .n 6 y.re.val, .n 6 y.im.val, .b false]) rfl) rfl rfl rfl) ?_
    refine GSteps.cons (gm_box 1 rfl (fun _ => rfl) (fun _ _ => rfl) (fun γ w h => ex_boxs (l := [.n 6 0, .n 6 0, .n 6 0, .n 6 0, .b true]) rfl) rfl rfl rfl) ?_
    refine GSteps.cons (gm_box 2 rfl (fun _ => rfl) (fun _ _ => rfl) (fun γ w h => ex_boxs (l := [.n 6 x.re.val, .n 6 x.im.val, .n 6 y.re.val, .n 6 y.im.val, .b false]) rfl) rfl rfl rfl) ?_
    refine GSteps.cons (gm_val (v := .bool false) rfl (fun _ => rfl) (fun _ => rfl) (fun γ w h => ex_assign _) rfl) ?_
    exact GSteps.nil
  intro γ1 w1 hb1 hB1 hn1
  refine th_r ?_
  have A2 : SB 28 w1 (γ1 0) [.n 6 x.re.val, .n 6 x.im.val, .n 6 y.re.val, .n 6 y.im.val, .b false] := (hB1 0 (by decide)).2
  have le2 := (hB1 0 (by decide)).1
  have A3 : SB 28 w1 (γ1 1) [.n 6 0, .n 6 0, .n 6 0, .n 6 0, .b true] := (hB1 1 (by decide)).2
  have le3 := (hB1 1 (by decide)).1
  have A4 : SB 28 w1 (γ1 2) [.n 6 x.re.val, .n 6 x.im.val, .n 6 y.re.val, .n 6 y.im.val, .b false] := (hB1 2 (by decide)).2
  have le4 := (hB1 2 (by decide)).1
  have HB5 := below_then (Below.refl w.heap.size w) hb1.out
  refine wp_seq ?_
  refine wp_seq (region_m (F := fun _ => ⟨List.toArray ((sv [.n 6 x.re.val, .n 6 x.im.val, .n 6 y.re.val, .n 6 y.im.val, .b false]) :: (sv [.n 6 0, .n 6 0, .n 6 0, .n 6 0, .b true]) :: (sv [.n 6 x.re.val, .n 6 x.im.val, .n 6 y.re.val, .n 6 y.im.val, .b false]) :: (.pointer (some ⟨(γ1 0), 0, none⟩)) :: (.pointer (some ⟨(γ1 1), 0, none⟩)) :: (.pointer (some ⟨(γ1 2), 0, none⟩)) :: (.bool false) :: (.pointer (some ⟨(γ1 0), 24, none⟩)) :: (.bool false) :: undef :: undef :: undef :: undef :: undef :: undef :: undef :: undef :: undef :: undef :: undef :: undef :: undef :: undef :: undef :: undef :: undef :: undef :: undef :: undef :: undef :: undef :: undef :: undef :: undef :: undef :: undef :: undef :: undef :: undef :: undef :: undef :: undef :: undef :: undef :: undef :: undef :: undef :: undef :: undef :: undef :: undef :: undef :: undef :: undef :: undef :: undef :: undef :: undef :: undef :: undef :: undef :: undef :: undef :: undef :: undef :: undef :: undef :: undef :: undef :: undef :: undef :: undef :: undef :: undef :: []), []⟩) 0 (fun _ => 0) (fun _ => 0) (fun _ => 0) (fun _ => []) (fun _ => []) [7, 8] (.inr ⟨rfl, by kernel_rfl⟩) (by kernel_rfl) rfl rfl rfl ?_ ?_)
  · refine GSteps.cons (gm_valg (fun γ => .pointer (some ⟨(γ1 0), 24, none⟩)) rfl (fun _ => rfl) (fun _ => rfl) (fun γ w h => ex_field faG2_2 rfl) rfl) ?_
    refine GSteps.cons (gm_val (v := .bool false) rfl (fun _ => rfl) (fun _ => rfl) (fun γ w h => ex_load1 4 (s := .b false) (v := .bool false) sgBool rfl (A2.keep h.out) rfl rfl rfl) rfl) ?_
    exact GSteps.nil
  intro _ w6 hb6 _ _
  refine th_r ?_
  have A7 := A2.keep hb6.out
  have A8 := A3.keep hb6.out
  have A9 := A4.keep hb6.out
  have HB10 := below_then HB5 hb6.out
  refine wp_cond_false rfl ?_
  refine wp_skip ?_
  refine th_r ?_
  refine wp_seq ?_
  refine wp_seq (region_m (F := fun _ => ⟨List.toArray ((sv [.n 6 x.re.val, .n 6 x.im.val, .n 6 y.re.val, .n 6 y.im.val, .b false]) :: (sv [.n 6 0, .n 6 0, .n 6 0, .n 6 0, .b true]) :: (sv [.n 6 x.re.val, .n 6 x.im.val, .n 6 y.re.val, .n 6 y.im.val, .b false]) :: (.pointer (some ⟨(γ1 0), 0, none⟩)) :: (.pointer (some ⟨(γ1 1), 0, none⟩)) :: (.pointer (some ⟨(γ1 2), 0, none⟩)) :: (.bool false) :: (.pointer (some ⟨(γ1 0), 24, none⟩)) :: (.bool false) :: undef :: undef :: undef :: (.pointer (some ⟨(γ1 1), 24, none⟩)) :: (.bool true) :: undef :: undef :: undef :: undef :: undef :: undef :: undef :: undef :: undef :: undef :: undef :: undef :: undef :: undef :: undef :: undef :: undef :: undef :: undef :: undef :: undef :: undef :: undef :: undef :: undef :: undef :: undef :: undef :: undef :: undef :: undef :: undef :: undef :: undef :: undef :: undef :: undef :: undef :: undef :: undef :: undef :: undef :: undef :: undef :: undef :: undef :: undef :: undef :: undef :: undef :: undef :: undef :: undef :: undef :: undef :: undef :: undef :: undef :: undef :: undef :: []), []⟩) 0 (fun _ => 0) (fun _ => 0) (fun _ => 0) (fun _ => []) (fun _ => []) [12, 13] (.inr ⟨rfl, by kernel_rfl⟩) (by kernel_rfl) rfl rfl rfl ?_ ?_)
  · refine GSteps.cons (gm_valg (fun γ => .pointer (some ⟨(γ1 1), 24, none⟩)) rfl (fun _ => rfl) (fun _ => rfl) (fun γ w h => ex_field faG2_2 rfl) rfl) ?_
    refine GSteps.cons (gm_val (v := .bool true) rfl (fun _ => rfl) (fun _ => rfl) (fun γ w h => ex_load1 4 (s := .b true) (v := .bool true) sgBool rfl (A8.keep h.out) rfl rfl rfl) rfl) ?_
    exact GSteps.nil
  intro _ w11 hb11 _ _
  refine th_r ?_
  have A12 := A7.keep hb11.out
  have A13 := A8.keep hb11.out
  have A14 := A9.keep hb11.out
  have HB15 := below_then HB10 hb11.out
  refine wp_cond_true rfl ?_
  refine wp_seq (region_m (F := fun _ => ⟨List.toArray ((sv [.n 6 x.re.val, .n 6 x.im.val, .n 6 y.re.val, .n 6 y.im.val, .b false]) :: (sv [.n 6 0, .n 6 0, .n 6 0, .n 6 0, .b true]) :: (sv [.n 6 x.re.val, .n 6 x.im.val, .n 6 y.re.val, .n 6 y.im.val, .b false]) :: (.pointer (some ⟨(γ1 0), 0, none⟩)) :: (.pointer (some ⟨(γ1 1), 0, none⟩)) :: (.pointer (some ⟨(γ1 2), 0, none⟩)) :: (.bool true) :: (.pointer (some ⟨(γ1 0), 24, none⟩)) :: (.bool false) :: undef :: undef :: undef :: (.pointer (some ⟨(γ1 1), 24, none⟩)) :: (.bool true) :: (sv [.n 6 x.re.val, .n 6 x.im.val, .n 6 y.re.val, .n 6 y.im.val, .b false]) :: (sv [.n 6 x.re.val, .n 6 x.im.val, .n 6 y.re.val, .n 6 y.im.val, .b false]) :: (.bool true) :: undef :: undef :: undef :: undef :: undef :: undef :: undef :: undef :: undef :: undef :: undef :: undef :: undef :: undef :: undef :: undef :: undef :: undef :: undef :: undef :: undef :: undef :: undef :: undef :: undef :: undef :: undef :: undef :: undef :: undef :: undef :: undef :: undef :: undef :: undef :: undef :: undef :: undef :: undef :: undef :: undef :: undef :: undef :: undef :: undef :: undef :: undef :: undef :: undef :: undef :: undef :: undef :: undef :: undef :: undef :: undef :: undef :: []), []⟩) 0 (fun _ => 0) (fun _ => 0) (fun _ => 0) (fun _ => []) (fun _ => []) [14, 15, 16, 6] (.inr ⟨rfl, by kernel_rfl⟩) (by kernel_rfl) rfl rfl rfl ?_ ?_)
  · refine GSteps.cons (gm_val (v := sv [.n 6 x.re.val, .n 6 x.im.val, .n 6 y.re.val, .n 6 y.im.val, .b false]) rfl (fun _ => rfl) (fun _ => rfl) (fun γ w h => ex_loads 0 5 (m := [.n 6 x.re.val, .n 6 x.im.val, .n 6 y.re.val, .n 6 y.im.val, .b false]) flG2 rfl rfl (A14.keep h.out) rfl rfl) rfl) ?_
    refine GSteps.cons (gm_val (v := sv [.n 6 x.re.val, .n 6 x.im.val, .n 6 y.re.val, .n 6 y.im.val, .b false]) rfl (fun _ => rfl) (fun _ => rfl) (fun γ w h => ex_loads 0 5 (m := [.n 6 x.re.val, .n 6 x.im.val, .n 6 y.re.val, .n 6 y.im.val, .b false]) flG2 rfl rfl (A12.keep h.out) rfl rfl) rfl) ?_
    refine GSteps.cons (gm_val (v := .bool true) rfl (fun _ => rfl) (fun _ => rfl) (fun γ w h => ex_eqs gdG2 eqG2 rfl rfl rfl (shG2_of (zp_B2 x.re) (zp_B2 x.im) (zp_B2 y.re) (zp_B2 y.im)) (shG2_of (zp_B2 x.re) (zp_B2 x.im) (zp_B2 y.re) (zp_B2 y.im)) true (by simp)) rfl) ?_
    refine GSteps.cons (gm_val (v := .bool true) rfl (fun _ => rfl) (fun _ => rfl) (fun γ w h => ex_assign _) rfl) ?_
    exact GSteps.nil
  intro _ w16 hb16 _ _
  refine th_r ?_
  have A17 := A12.keep hb16.out
  have A18 := A13.keep hb16.out
  have A19 := A14.keep hb16.out
  have HB20 := below_then HB15 hb16.out
  exact wp_ret (th_ret (bodyPost_ret (ret1 Tryz.results12 (res_tmp rfl)) rfl ⟨rfl, HB20⟩))

set_option maxRecDepth 20000 in
set_option maxHeartbeats 4000000 in
theorem r9Sum_opp (x y z : Zq) (hz : y = -z) (w : World) :
    Calls Tryz.prog 12 #[sv [.n 6 x.re.val, .n 6 x.im.val, .n 6 y.re.val, .n 6 y.im.val, .b false], sv [.n 6 x.re.val, .n 6 x.im.val, .n 6 z.re.val, .n 6 z.im.val, .b false], sv [.n 6 0, .n 6 0, .n 6 0, .n 6 0, .b true]] w (Is (.bool true) w) := by
  obtain ⟨z1, ez1⟩ : ∃ q_ : Zq, q_ = -z := ⟨_, rfl⟩
  go_enter Tryz.func12, Tryz.ntmps12
  refine wp_seq (region_m (F := fun γ => ⟨List.toArray ((sv [.n 6 x.re.val, .n 6 x.im.val, .n 6 y.re.val, .n 6 y.im.val, .b false]) :: (sv [.n 6 x.re.val, .n 6 x.im.val, .n 6 z.re.val, .n 6 z.im.val, .b false]) :: (sv [.n 6 0, .n 6 0, .n 6 0, .n 6 0, .b true]) :: (.pointer (some ⟨γ 0, 0, none⟩)) :: (.pointer (some ⟨γ 1, 0, none⟩)) :: (.pointer (some ⟨γ 2, 0, none⟩)) :: (.bool false) :: undef :: undef :: undef :: undef :: undef :: undef :: undef :: undef :: undef :: undef :: undef :: undef :: undef :: undef :: undef :: undef :: undef :: undef :: undef :: undef :: undef :: undef :: undef :: undef :: undef :: undef :: undef :: undef :: undef :: undef :: undef :: undef :: undef :: undef :: undef :: undef :: undef :: undef :: undef :: undef :: undef :: undef :: undef :: undef :: undef :: undef :: undef :: undef :: undef :: undef :: undef :: undef :: undef :: undef :: undef :: undef :: undef :: undef :: undef :: undef :: undef :: undef :: undef :: undef :: undef :: undef :: undef :: []), []⟩) 3 (fun j_ => match j_ with | 0 => 28 | 1 => 28 | _ => 28) (fun j_ => match j_ with | 0 => 0 | 1 => 1 | _ => 2) (fun j_ => match j_ with | 0 => 0 | 1 => 1 | _ => 2) (fun j_ => match j_ with | 0 => segs [.n 6 x.re.val, .n 6 x.im.val, .n 6 y.re.val, .n 6 y.im.val, .b false] | 1 => segs [.n 6 x.re.val, .n 6 x.im.val, .n 6 z.re.val, .n 6 z.im.val, .b false] | _ => segs [.n 6 0, .n 6 0, .n 6 0, .n 6 0, .b true]) (fun j_ => match j_ with | 0 => segs [.n 6 x.re.val, .n 6 x.im.val, .n 6 y.re.val, .n 6 y.im.val, .b false] | 1 => segs [.n 6 x.re.val, .n 6 x.im.val, .n 6 z.re.val, .n 6 z.im.val, .b false] | _ => segs [.n 6 0, .n 6 0, .n 6 0, .n 6 0, .b true]) [3, 4, 5, 6] (.inr ⟨rfl, by kernel_rfl⟩) (by kernel_rfl) rfl rfl rfl ?_ ?_)
  · refine GSteps.cons (gm_box 0 rfl (fun _ => rfl) (fun _ _ => rfl) (fun γ w h => ex_boxs (l := [.n 6 x.re.val, .n 6 x.im.val, .n 6 y.re.val, .n 6 y.im.val, .b false]) rfl) rfl rfl rfl) ?_
    refine GSteps.cons (gm_box 1 rfl (fun _ => rfl) (fun _ _ => rfl) (fun γ w h => ex_boxs (l := [.n 6 x.re.val, .n 6 x.im.val, .n 6 z.re.val, .n 6 z.im.val, .b false]) rfl) rfl rfl rfl) ?_
    refine GSteps.cons (gm_box 2 rfl (fun _ => rfl) (fun _ _ => rfl) (fun γ w h => ex_boxs (l := [.n 6 0, .n 6 0, .n 6 0, .n 6 0, .b true]) rfl) rfl rfl rfl) ?_
    refine GSteps.cons (gm_val (v := .bool false) rfl (fun _ => rfl) (fun _ => rfl) (fun γ w h => ex_assign _) rfl) ?_
    exact GSteps.nil
  intro γ1 w1 hb1 hB1 hn1
  refine th_r ?_
  have A2 : SB 28 w1 (γ1 0) [.n 6 x.re.val, .n 6 x.im.val, .n 6 y.re.val, .n 6 y.im.val, .b false] := (hB1 0 (by decide)).2
  have le2 := (hB1 0 (by decide)).1
  have A3 : SB 28 w1 (γ1 1) [.n 6 x.re.val, .n 6 x.im.val, .n 6 z.re.val, .n 6 z.im.val, .b false] := (hB1 1 (by decide)).2
  have le3 := (hB1 1 (by decide)).1
  have A4 : SB 28 w1 (γ1 2) [.n 6 0, .n 6 0, .n 6 0, .n 6 0, .b true] := (hB1 2 (by decide)).2
  have le4 := (hB1 2 (by decide)).1
  have HB5 := below_then (Below.refl w.heap.size w) hb1.out
  refine wp_seq ?_
  refine wp_seq (region_m (F := fun _ => ⟨List.toArray ((sv [.n 6 x.re.val, .n 6 x.im.val, .n 6 y.re.val, .n 6 y.im.val, .b false]) :: (sv [.n 6 x.re.val, .n 6 x.im.val, .n 6 z.re.val, .n 6 z.im.val, .b false]) :: (sv [.n 6 0, .n 6 0, .n 6 0, .n 6 0, .b true]) :: (.pointer (some ⟨(γ1 0), 0, none⟩)) :: (.pointer (some ⟨(γ1 1), 0, none⟩)) :: (.pointer (some ⟨(γ1 2), 0, none⟩)) :: (.bool false) :: (.pointer (some ⟨(γ1 0), 24, none⟩)) :: (.bool false) :: undef :: undef :: undef :: undef :: undef :: undef :: undef :: undef :: undef :: undef :: undef :: undef :: undef :: undef :: undef :: undef :: undef :: undef :: undef :: undef :: undef :: undef :: undef :: undef :: undef :: undef :: undef :: undef :: undef :: undef :: undef :: undef :: undef :: undef :: undef :: undef :: undef :: undef :: undef :: undef :: undef :: undef :: undef :: undef :: undef :: undef :: undef :: undef :: undef :: undef :: undef :: undef :: undef :: undef :: undef :: undef :: undef :: undef :: undef :: undef :: undef :: undef :: undef :: undef :: undef :: []), []⟩) 0 (fun _ => 0) (fun _ => 0) (fun _ => 0) (fun _ => []) (fun _ => []) [7, 8] (.inr ⟨rfl, by kernel_rfl⟩) (by kernel_rfl) rfl rfl rfl ?_ ?_)
  · refine GSteps.cons (gm_valg (fun γ => .pointer (some ⟨(γ1 0), 24, none⟩)) rfl (fun _ => rfl) (fun _ => rfl) (fun γ w h => ex_field faG2_2 rfl) rfl) ?_
    refine GSteps.cons (gm_val (v := .bool false) rfl (fun _ => rfl) (fun _ => rfl) (fun γ w h => ex_load1 4 (s := .b false) (v := .bool false) sgBool rfl (A2.keep h.out) rfl rfl rfl) rfl) ?_
    exact GSteps.nil
  intro _ w6 hb6 _ _
  refine th_r ?_
  have A7 := A2.keep hb6.out
  have A8 := A3.keep hb6.out
  have A9 := A4.keep hb6.out
  have HB10 := below_then HB5 hb6.out
  refine wp_cond_false rfl ?_
  refine wp_skip ?_
  refine th_r ?_
  refine wp_seq ?_
  refine wp_seq (region_m (F := fun _ => ⟨List.toArray ((sv [.n 6 x.re.val, .n 6 x.im.val, .n 6 y.re.val, .n 6 y.im.val, .b false]) :: (sv [.n 6 x.re.val, .n 6 x.im.val, .n 6 z.re.val, .n 6 z.im.val, .b false]) :: (sv [.n 6 0, .n 6 0, .n 6 0, .n 6 0, .b true]) :: (.pointer (some ⟨(γ1 0), 0, none⟩)) :: (.pointer (some ⟨(γ1 1), 0, none⟩)) :: (.pointer (some ⟨(γ1 2), 0, none⟩)) :: (.bool false) :: (.pointer (some ⟨(γ1 0), 24, none⟩)) :: (.bool false) :: undef :: undef :: undef :: (.pointer (some ⟨(γ1 1), 24, none⟩)) :: (.bool false) :: undef :: undef :: undef :: undef :: undef :: undef :: undef :: undef :: undef :: undef :: undef :: undef :: undef :: undef :: undef :: undef :: undef :: undef :: undef :: undef :: undef :: undef :: undef :: undef :: undef :: undef :: undef :: undef :: undef :: undef :: undef :: undef :: undef :: undef :: undef :: undef :: undef :: undef :: undef :: undef :: undef :: undef :: undef :: undef :: undef :: undef :: undef :: undef :: undef :: undef :: undef :: undef :: undef :: undef :: undef :: undef :: undef :: undef :: undef :: undef :: []), []⟩) 0 (fun _ => 0) (fun _ => 0) (fun _ => 0) (fun _ => []) (fun _ => []) [12, 13] (.inr ⟨rfl, by kernel_rfl⟩) (by kernel_rfl) rfl rfl rfl ?_ ?_)
  · refine GSteps.cons (gm_valg (fun γ => .pointer (some ⟨(γ1 1), 24, none⟩)) rfl (fun _ => rfl) (fun _ => rfl) (fun γ w h => ex_field faG2_2 rfl) rfl) ?_
    refine GSteps.cons (gm_val (v := .bool false) rfl (fun _ => rfl) (fun _ => rfl) (fun γ w h => ex_load1 4 (s := .b false) (v := .bool false) sgBool rfl (A8.keep h.out) rfl rfl rfl) rfl) ?_
    exact GSteps.nil
  intro _ w11 hb11 _ _
  refine th_r ?_
  have A12 := A7.keep hb11.out
  have A13 := A8.keep hb11.out
  have A14 := A9.keep hb11.out
  have HB15 := below_then HB10 hb11.out
  refine wp_cond_false rfl ?_
  refine wp_skip ?_
  refine th_r ?_
  refine wp_seq ?_
  refine wp_seq (region_m (F := fun _ => ⟨List.toArray ((sv [.n 6 x.re.val, .n 6 x.im.val, .n 6 y.re.val, .n 6 y.im.val, .b false]) :: (sv [.n 6 x.re.val, .n 6 x.im.val, .n 6 z.re.val, .n 6 z.im.val, .b false]) :: (sv [.n 6 0, .n 6 0, .n 6 0, .n 6 0, .b true]) :: (.pointer (some ⟨(γ1 0), 0, none⟩)) :: (.pointer (some ⟨(γ1 1), 0, none⟩)) :: (.pointer (some ⟨(γ1 2), 0, none⟩)) :: (.bool false) :: (.pointer (some ⟨(γ1 0), 24, none⟩)) :: (.bool false) :: undef :: undef :: undef :: (.pointer (some ⟨(γ1 1), 24, none⟩)) :: (.bool false) :: undef :: undef :: undef :: (.pointer (some ⟨(γ1 0), 0, none⟩)) :: (nv 6 [x.re.val, x.im.val]) :: (.pointer (some ⟨(γ1 1), 0, none⟩)) :: (nv 6 [x.re.val, x.im.val]) :: (.bool true) :: (.bool true) :: (.pointer (some ⟨(γ1 0), 12, none⟩)) :: (nv 6 [y.re.val, y.im.val]) :: (.pointer (some ⟨(γ1 1), 12, none⟩)) :: (nv 6 [z.re.val, z.im.val]) :: (nv 6 [z1.re.val, z1.im.val]) :: (.bool true) :: (.bool true) :: undef :: undef :: undef :: undef :: undef :: undef :: undef :: undef :: undef :: undef :: undef :: undef :: undef :: undef :: undef :: undef :: undef :: undef :: undef :: undef :: undef :: undef :: undef :: undef :: undef :: undef :: undef :: undef :: undef :: undef :: undef :: undef :: undef :: undef :: undef :: undef :: undef :: undef :: undef :: undef :: undef :: undef :: undef :: undef :: []), []⟩) 0 (fun _ => 0) (fun _ => 0) (fun _ => 0) (fun _ => []) (fun _ => []) [17, 18, 19, 20, 21, 22, 23, 24, 25, 26, 27, 28, 29] (.inl ⟨rfl, by kernel_rfl⟩) (by kernel_rfl) rfl rfl rfl ?_ ?_)
  · refine GSteps.cons (gm_valg (fun γ => .pointer (some ⟨(γ1 0), 0, none⟩)) rfl (fun _ => rfl) (fun _ => rfl) (fun γ w h => ex_field faG2_0 rfl) rfl) ?_
    refine GSteps.cons (gm_val (v := nv 6 [x.re.val, x.im.val]) rfl (fun _ => rfl) (fun _ => rfl) (fun γ w h => ex_loadsn (K := 6) 0 2 (m := [x.re.val, x.im.val]) flFp2 rfl rfl (A12.keep h.out) rfl rfl) rfl) ?_
    refine GSteps.cons (gm_valg (fun γ => .pointer (some ⟨(γ1 1), 0, none⟩)) rfl (fun _ => rfl) (fun _ => rfl) (fun γ w h => ex_field faG2_0 rfl) rfl) ?_
    refine GSteps.cons (gm_val (v := nv 6 [x.re.val, x.im.val]) rfl (fun _ => rfl) (fun _ => rfl) (fun γ w h => ex_loadsn (K := 6) 0 2 (m := [x.re.val, x.im.val]) flFp2 rfl rfl (A13.keep h.out) rfl rfl) rfl) ?_
    refine GSteps.cons (gm_val (v := .bool true) rfl (fun _ => rfl) (fun _ => rfl) (fun γ w h => ex_eqt (K := 6) (l := [x.re.val, x.im.val]) eqFp2 rfl rfl rfl rfl) rfl) ?_
    refine GSteps.cons (gm_val (v := .bool true) rfl (fun _ => rfl) (fun _ => rfl) (fun γ w h => ex_move _) rfl) ?_
    refine GSteps.cons (gm_valg (fun γ => .pointer (some ⟨(γ1 0), 12, none⟩)) rfl (fun _ => rfl) (fun _ => rfl) (fun γ w h => ex_field faG2_1 rfl) rfl) ?_
    refine GSteps.cons (gm_val (v := nv 6 [y.re.val, y.im.val]) rfl (fun _ => rfl) (fun _ => rfl) (fun γ w h => ex_loadsn (K := 6) 2 2 (m := [y.re.val, y.im.val]) flFp2 rfl rfl (A12.keep h.out) rfl rfl) rfl) ?_
    refine GSteps.cons (gm_valg (fun γ => .pointer (some ⟨(γ1 1), 12, none⟩)) rfl (fun _ => rfl) (fun _ => rfl) (fun γ w h => ex_field faG2_1 rfl) rfl) ?_
    refine GSteps.cons (gm_val (v := nv 6 [z.re.val, z.im.val]) rfl (fun _ => rfl) (fun _ => rfl) (fun γ w h => ex_loadsn (K := 6) 2 2 (m := [z.re.val, z.im.val]) flFp2 rfl rfl (A13.keep h.out) rfl rfl) rfl) ?_
    refine GSteps.cons (gm_call (v := nv 6 [z1.re.val, z1.im.val]) rfl (fun _ => rfl) (fun _ => rfl) (fun γ w => ex_call (vs := [nv 6 [z.re.val, z.im.val]]) rfl Tryz.call30 rfl) (fun w h => r5Neg_z z z1 rfl ez1 _) rfl) ?_
    refine GSteps.cons (gm_val (v := .bool true) rfl (fun _ => rfl) (fun _ => rfl) (fun γ w h => ex_eqzq y z1 rfl rfl rfl rfl true ⟨fun _ => (by subst ez1; exact hz), fun _ => rfl⟩) rfl) ?_
    refine GSteps.cons (gm_val (v := .bool true) rfl (fun _ => rfl) (fun _ => rfl) (fun γ w h => ex_pick (r := true) rfl) rfl) ?_
    exact GSteps.nil
  intro _ w16 hb16 _ _
  refine th_r ?_
  have A17 := A12.keep hb16.out
  have A18 := A13.keep hb16.out
  have A19 := A14.keep hb16.out
  have HB20 := below_then HB15 hb16.out
  refine wp_cond_true rfl ?_
  refine wp_seq (region_m (F := fun _ => ⟨List.toArray ((sv [.n 6 x.re.val, .n 6 x.im.val, .n 6 y.re.val, .n 6 y.im.val, .b false]) :: (sv [.n 6 x.re.val, .n 6 x.im.val, .n 6 z.re.val, .n 6 z.im.val, .b false]) :: (sv [.n 6 0, .n 6 0, .n 6 0, .n 6 0, .b true]) :: (.pointer (some ⟨(γ1 0), 0, none⟩)) :: (.pointer (some ⟨(γ1 1), 0, none⟩)) :: (.pointer (some ⟨(γ1 2), 0, none⟩)) :: (.bool true) :: (.pointer (some ⟨(γ1 0), 24, none⟩)) :: (.bool false) :: undef :: undef :: undef :: (.pointer (some ⟨(γ1 1), 24, none⟩)) :: (.bool false) :: undef :: undef :: undef :: (.pointer (some ⟨(γ1 0), 0, none⟩)) :: (nv 6 [x.re.val, x.im.val]) :: (.pointer (some ⟨(γ1 1), 0, none⟩)) :: (nv 6 [x.re.val, x.im.val]) :: (.bool true) :: (.bool true) :: (.pointer (some ⟨(γ1 0), 12, none⟩)) :: (nv 6 [y.re.val, y.im.val]) :: (.pointer (some ⟨(γ1 1), 12, none⟩)) :: (nv 6 [z.re.val, z.im.val]) :: (nv 6 [z1.re.val, z1.im.val]) :: (.bool true) :: (.bool true) :: (sv [.n 6 0, .n 6 0, .n 6 0, .n 6 0, .b true]) :: (sv [.n 6 0, .n 6 0, .n 6 0, .n 6 0, .b true]) :: (.bool true) :: undef :: undef :: undef :: undef :: undef :: undef :: undef :: undef :: undef :: undef :: undef :: undef :: undef :: undef :: undef :: undef :: undef :: undef :: undef :: undef :: undef :: undef :: undef :: undef :: undef :: undef :: undef :: undef :: undef :: undef :: undef :: undef :: undef :: undef :: undef :: undef :: undef :: undef :: undef :: undef :: undef :: []), []⟩) 0 (fun _ => 0) (fun _ => 0) (fun _ => 0) (fun _ => []) (fun _ => []) [30, 31, 32, 6] (.inr ⟨rfl, by kernel_rfl⟩) (by kernel_rfl) rfl rfl rfl ?_ ?_)
  · refine GSteps.cons (gm_val (v := sv [.n 6 0, .n 6 0, .n 6 0, .n 6 0, .b true]) rfl (fun _ => rfl) (fun _ => rfl) (fun γ w h => ex_loads 0 5 (m := [.n 6 0, .n 6 0, .n 6 0, .n 6 0, .b true]) flG2 rfl rfl (A19.keep h.out) rfl rfl) rfl) ?_
    refine GSteps.cons (gm_val (v := sv [.n 6 0, .n 6 0, .n 6 0, .n 6 0, .b true]) rfl (fun _ => rfl) (fun _ => rfl) (fun γ w h => ex_builds stG2 (l := [.n 6 0, .n 6 0, .n 6 0, .n 6 0, .b true]) (vs := [(2, .bool true)]) rfl ((fills_cons 4 1 (m := [.b true]) (z' := [.n 6 0, .n 6 0, .n 6 0, .n 6 0, .b true]) rfl (bool_cells true) rfl rfl rfl rfl).trans rfl)) rfl) ?_
    refine GSteps.cons (gm_val (v := .bool true) rfl (fun _ => rfl) (fun _ => rfl) (fun γ w h => ex_eqs gdG2 eqG2 rfl rfl rfl (shG2_of zero_B zero_B zero_B zero_B) (shG2_of zero_B zero_B zero_B zero_B) true (by simp)) rfl) ?_
    refine GSteps.cons (gm_val (v := .bool true) rfl (fun _ => rfl) (fun _ => rfl) (fun γ w h => ex_assign _) rfl) ?_
    exact GSteps.nil
  intro _ w21 hb21 _ _
  refine th_r ?_
  have A22 := A17.keep hb21.out
  have A23 := A18.keep hb21.out
  have A24 := A19.keep hb21.out
  have HB25 := below_then HB20 hb21.out
  exact wp_ret (th_ret (bodyPost_ret (ret1 Tryz.results12 (res_tmp rfl)) rfl ⟨rfl, HB25⟩))

set_option maxRecDepth 20000 in
set_option maxHeartbeats 4000000 in
theorem r9Sum_chord (x1 y1 x2 y2 x3 y3 : Zq) (hx : x1 ≠ x2) (h1 : (x3 + (x1 + x2)) * ((x2 - x1) * (x2 - x1)) = (y2 - y1) * (y2 - y1)) (h2 : (y3 + y1) * (x2 - x1) = (y2 - y1) * (x1 - x3)) (hR : ∀ w, Calls Tryz.prog 9 #[sv [.n 6 x3.re.val, .n 6 x3.im.val, .n 6 y3.re.val, .n 6 y3.im.val, .b false]] w (Is (.bool true) w)) (w : World) :
    Calls Tryz.prog 12 #[sv [.n 6 x1.re.val, .n 6 x1.im.val, .n 6 y1.re.val, .n 6 y1.im.val, .b false], sv [.n 6 x2.re.val, .n 6 x2.im.val, .n 6 y2.re.val, .n 6 y2.im.val, .b false], sv [.n 6 x3.re.val, .n 6 x3.im.val, .n 6 y3.re.val, .n 6 y3.im.val, .b false]] w (Is (.bool true) w) := by
  obtain ⟨z1, ez1⟩ : ∃ q_ : Zq, q_ = x2 - x1 := ⟨_, rfl⟩
  obtain ⟨z2, ez2⟩ : ∃ q_ : Zq, q_ = y2 - y1 := ⟨_, rfl⟩
  go_enter Tryz.func12, Tryz.ntmps12
  refine wp_seq (region_m (F := fun γ => ⟨List.toArray ((sv [.n 6 x1.re.val, .n 6 x1.im.val, .n 6 y1.re.val, .n 6 y1.im.val, .b false]) :: (sv [.n 6 x2.re.val, .n 6 x2.im.val, .n 6 y2.re.val, .n 6 y2.im.val, .b false]) :: (sv [.n 6 x3.re.val, .n 6 x3.im.val, .n 6 y3.re.val, .n 6 y3.im.val, .b false]) :: (.pointer (some ⟨γ 0, 0, none⟩)) :: (.pointer (some ⟨γ 1, 0, none⟩)) :: (.pointer (some ⟨γ 2, 0, none⟩)) :: (.bool false) :: undef :: undef :: undef :: undef :: undef :: undef :: undef :: undef :: undef :: undef :: undef :: undef :: undef :: undef :: undef :: undef :: undef :: undef :: undef :: undef :: undef :: undef :: undef :: undef :: undef :: undef :: undef :: undef :: undef :: undef :: undef :: undef :: undef :: undef :: undef :: undef :: undef :: undef :: undef :: undef :: undef :: undef :: undef :: undef :: undef :: undef :: undef :: undef :: undef :: undef :: undef :: undef :: undef :: undef :: undef :: undef :: undef :: undef :: undef :: undef :: undef :: undef :: undef :: undef :: undef :: undef :: undef :: []), []⟩) 3 (fun j_ => match j_ with | 0 => 28 | 1 => 28 | _ => 28) (fun j_ => match j_ with | 0 => 0 | 1 => 1 | _ => 2) (fun j_ => match j_ with | 0 => 0 | 1 => 1 | _ => 2) (fun j_ => match j_ with | 0 => segs [.n 6 x1.re.val, .n 6 x1.im.val, .n 6 y1.re.val, .n 6 y1.im.val, .b false] | 1 => segs [.n 6 x2.re.val, .n 6 x2.im.val, .n 6 y2.re.val, .n 6 y2.im.val, .b false] | _ => segs [.n 6 x3.re.val, .n 6 x3.im.val, .n 6 y3.re.val, .n 6 y3.im.val, .b false]) (fun j_ => match j_ with | 0 => segs [.n 6 x1.re.val, .n 6 x1.im.val, .n 6 y1.re.val, .n 6 y1.im.val, .b false] | 1 => segs [.n 6 x2.re.val, .n 6 x2.im.val, .n 6 y2.re.val, .n 6 y2.im.val, .b false] | _ => segs [.n 6 x3.re.val, .n 6 x3.im.val, .n 6 y3.re.val, .n 6 y3.im.val, .b false]) [3, 4, 5, 6] (.inr ⟨rfl, by kernel_rfl⟩) (by kernel_rfl) rfl rfl rfl ?_ ?_)
  · refine GSteps.cons (gm_box 0 rfl (fun _ => rfl) (fun _ _ => rfl) (fun γ w h => ex_boxs (l := [.n 6 x1.re.val, .n 6 x1.im.val, .n 6 y1.re.val, .n 6 y1.im.val, .b false]) rfl) rfl rfl rfl) ?_
    refine GSteps.cons (gm_box 1 rfl (fun _ => rfl) (fun _ _ => rfl) (fun γ w h => ex_boxs (l := [.n 6 x2.re.val, .n 6 x2.im.val, .n 6 y2.re.val, .n 6 y2.im.val, .b false]) rfl) rfl rfl rfl) ?_
    refine GSteps.cons (gm_box 2 rfl (fun _ => rfl) (fun _ _ => rfl) (fun γ w h => ex_boxs (l := [.n 6 x3.re.val, .n 6 x3.im.val, .n 6 y3.re.val, .n 6 y3.im.val, .b false]) rfl) rfl rfl rfl) ?_
    refine GSteps.cons (gm_val (v := .bool false) rfl (fun _ => rfl) (fun _ => rfl) (fun γ w h => ex_assign _) rfl) ?_
    exact GSteps.nil
  intro γ1 w1 hb1 hB1 hn1
  refine th_r ?_
  have A2 : SB 28 w1 (γ1 0) [.n 6 x1.re.val, .n 6 x1.im.val, .n 6 y1.re.val, .n 6 y1.im.val, .b false] := (hB1 0 (by decide)).2
  have le2 := (hB1 0 (by decide)).1
  have A3 : SB 28 w1 (γ1 1) [.n 6 x2.re.val, .n 6 x2.im.val, .n 6 y2.re.val, .n 6 y2.im.val, .b false] := (hB1 1 (by decide)).2
  have le3 := (hB1 1 (by decide)).1
  have A4 : SB 28 w1 (γ1 2) [.n 6 x3.re.val, .n 6 x3.im.val, .n 6 y3.re.val, .n 6 y3.im.val, .b false] := (hB1 2 (by decide)).2
  have le4 := (hB1 2 (by decide)).1
  have HB5 := below_then (Below.refl w.heap.size w) hb1.out
  refine wp_seq ?_
  refine wp_seq (region_m (F := fun _ => ⟨List.toArray ((sv [.n 6 x1.re.val, .n 6 x1.im.val, .n 6 y1.re.val, .n 6 y1.im.val, .b false]) :: (sv [.n 6 x2.re.val, .n 6 x2.im.val, .n 6 y2.re.val, .n 6 y2.im.val, .b false]) :: (sv [.n 6 x3.re.val, .n 6 x3.im.val, .n 6 y3.re.val, .n 6 y3.im.val, .b false]) :: (.pointer (some ⟨(γ1 0), 0, none⟩)) :: (.pointer (some ⟨(γ1 1), 0, none⟩)) :: (.pointer (some ⟨(γ1 2), 0, none⟩)) :: (.bool false) :: (.pointer (some ⟨(γ1 0), 24, none⟩)) :: (.bool false) :: undef :: undef :: undef :: undef :: undef :: undef :: undef :: undef :: undef :: undef :: undef :: undef :: undef :: undef :: undef :: undef :: undef :: undef :: undef :: undef :: undef :: undef :: undef :: undef :: undef :: undef :: undef :: undef :: undef :: undef :: undef :: undef :: undef :: undef :: undef :: undef :: undef :: undef :: undef :: undef :: undef :: undef :: undef :: undef :: undef :: undef :: undef :: undef :: undef :: undef :: undef :: undef :: undef :: undef :: undef :: undef :: undef :: undef :: undef :: undef :: undef :: undef :: undef :: undef :: undef :: []), []⟩) 0 (fun _ => 0) (fun _ => 0) (fun _ => 0) (fun _ => []) (fun _ => []) [7, 8] (.inr ⟨rfl, by kernel_rfl⟩) (by kernel_rfl) rfl rfl rfl ?_ ?_)
  · refine GSteps.cons (gm_valg (fun γ => .pointer (some ⟨(γ1 0), 24, none⟩)) rfl (fun _ => rfl) (fun _ => rfl) (fun γ w h => ex_field faG2_2 rfl) rfl) ?_
    refine GSteps.cons (gm_val (v := .bool false) rfl (fun _ => rfl) (fun _ => rfl) (fun γ w h => ex_load1 4 (s := .b false) (v := .bool false) sgBool rfl (A2.keep h.out) rfl rfl rfl) rfl) ?_
    exact GSteps.nil
  intro _ w6 hb6 _ _
  refine th_r ?_
  have A7 := A2.keep hb6.out
  have A8 := A3.keep hb6.out
  have A9 := A4.keep hb6.out
  have HB10 := below_then HB5 hb6.out
  refine wp_cond_false rfl ?_
  refine wp_skip ?_
  refine th_r ?_
  refine wp_seq ?_
  refine wp_seq (region_m (F := fun _ => ⟨List.toArray ((sv [.n 6 x1.re.val, .n 6 x1.im.val, .n 6 y1.re.val, .n 6 y1.im.val, .b false]) :: (sv [.n 6 x2.re.val, .n 6 x2.im.val, .n 6 y2.re.val, .n 6 y2.im.val, .b false]) :: (sv [.n 6 x3.re.val, .n 6 x3.im.val, .n 6 y3.re.val, .n 6 y3.im.val, .b false]) :: (.pointer (some ⟨(γ1 0), 0, none⟩)) :: (.pointer (some ⟨(γ1 1), 0, none⟩)) :: (.pointer (some ⟨(γ1 2), 0, none⟩)) :: (.bool false) :: (.pointer (some ⟨(γ1 0), 24, none⟩)) :: (.bool false) :: undef :: undef :: undef :: (.pointer (some ⟨(γ1 1), 24, none⟩)) :: (.bool false) :: undef :: undef :: undef :: undef :: undef :: undef :: undef :: undef :: undef :: undef :: undef :: undef :: undef :: undef :: undef :: undef :: undef :: undef :: undef :: undef :: undef :: undef :: undef :: undef :: undef :: undef :: undef :: undef :: undef :: undef :: undef :: undef :: undef :: undef :: undef :: undef :: undef :: undef :: undef :: undef :: undef :: undef :: undef :: undef :: undef :: undef :: undef :: undef :: undef :: undef :: undef :: undef :: undef :: undef :: undef :: undef :: undef :: undef :: undef :: undef :: []), []⟩) 0 (fun _ => 0) (fun _ => 0) (fun _ => 0) (fun _ => []) (fun _ => []) [12, 13] (.inr ⟨rfl, by kernel_rfl⟩) (by kernel_rfl) rfl rfl rfl ?_ ?_)
  · refine GSteps.cons (gm_valg (fun γ => .pointer (some ⟨(γ1 1), 24, none⟩)) rfl (fun _ => rfl) (fun _ => rfl) (fun γ w h => ex_field faG2_2 rfl) rfl) ?_
    refine GSteps.cons (gm_val (v := .bool false) rfl (fun _ => rfl) (fun _ => rfl) (fun γ w h => ex_load1 4 (s := .b false) (v := .bool false) sgBool rfl (A8.keep h.out) rfl rfl rfl) rfl) ?_
    exact GSteps.nil
  intro _ w11 hb11 _ _
  refine th_r ?_
  have A12 := A7.keep hb11.out
  have A13 := A8.keep hb11.out
  have A14 := A9.keep hb11.out
  have HB15 := below_then HB10 hb11.out
  refine wp_cond_false rfl ?_
  refine wp_skip ?_
  refine th_r ?_
  refine wp_seq ?_
  refine wp_seq (region_m (F := fun _ => ⟨List.toArray ((sv [.n 6 x1.re.val, .n 6 x1.im.val, .n 6 y1.re.val, .n 6 y1.im.val, .b false]) :: (sv [.n 6 x2.re.val, .n 6 x2.im.val, .n 6 y2.re.val, .n 6 y2.im.val, .b false]) :: (sv [.n 6 x3.re.val, .n 6 x3.im.val, .n 6 y3.re.val, .n 6 y3.im.val, .b false]) :: (.pointer (some ⟨(γ1 0), 0, none⟩)) :: (.pointer (some ⟨(γ1 1), 0, none⟩)) :: (.pointer (some ⟨(γ1 2), 0, none⟩)) :: (.bool false) :: (.pointer (some ⟨(γ1 0), 24, none⟩)) :: (.bool false) :: undef :: undef :: undef :: (.pointer (some ⟨(γ1 1), 24, none⟩)) :: (.bool false) :: undef :: undef :: undef :: (.pointer (some ⟨(γ1 0), 0, none⟩)) :: (nv 6 [x1.re.val, x1.im.val]) :: (.pointer (some ⟨(γ1 1), 0, none⟩)) :: (nv 6 [x2.re.val, x2.im.val]) :: (.bool false) :: (.bool false) :: undef :: undef :: undef :: undef :: undef :: undef :: (.bool false) :: undef :: undef :: undef :: undef :: undef :: undef :: undef :: undef :: undef :: undef :: undef :: undef :: undef :: undef :: undef :: undef :: undef :: undef :: undef :: undef :: undef :: undef :: undef :: undef :: undef :: undef :: undef :: undef :: undef :: undef :: undef :: undef :: undef :: undef :: undef :: undef :: undef :: undef :: undef :: undef :: undef :: undef :: undef :: undef :: []), []⟩) 0 (fun _ => 0) (fun _ => 0) (fun _ => 0) (fun _ => []) (fun _ => []) [17, 18, 19, 20, 21, 22, 23, 24, 25, 26, 27, 28, 29] (.inl ⟨rfl, by kernel_rfl⟩) (by kernel_rfl) rfl rfl rfl ?_ ?_)
  · refine GSteps.cons (gm_valg (fun γ => .pointer (some ⟨(γ1 0), 0, none⟩)) rfl (fun _ => rfl) (fun _ => rfl) (fun γ w h => ex_field faG2_0 rfl) rfl) ?_
    refine GSteps.cons (gm_val (v := nv 6 [x1.re.val, x1.im.val]) rfl (fun _ => rfl) (fun _ => rfl) (fun γ w h => ex_loadsn (K := 6) 0 2 (m := [x1.re.val, x1.im.val]) flFp2 rfl rfl (A12.keep h.out) rfl rfl) rfl) ?_
    refine GSteps.cons (gm_valg (fun γ => .pointer (some ⟨(γ1 1), 0, none⟩)) rfl (fun _ => rfl) (fun _ => rfl) (fun γ w h => ex_field faG2_0 rfl) rfl) ?_
    refine GSteps.cons (gm_val (v := nv 6 [x2.re.val, x2.im.val]) rfl (fun _ => rfl) (fun _ => rfl) (fun γ w h => ex_loadsn (K := 6) 0 2 (m := [x2.re.val, x2.im.val]) flFp2 rfl rfl (A13.keep h.out) rfl rfl) rfl) ?_
    refine GSteps.cons (gm_val (v := .bool false) rfl (fun _ => rfl) (fun _ => rfl) (fun γ w h => ex_eqzq x1 x2 rfl rfl rfl rfl false ⟨fun e => Bool.noConfusion e, fun e => absurd e hx⟩) rfl) ?_
    refine GSteps.cons (gm_val (v := .bool false) rfl (fun _ => rfl) (fun _ => rfl) (fun γ w h => ex_move _) rfl) ?_
    refine GSteps.cons (gm_skip rfl (fun _ => rfl) (fun _ => rfl) rfl) ?_
    refine GSteps.cons (gm_skip rfl (fun _ => rfl) (fun _ => rfl) rfl) ?_
    refine GSteps.cons (gm_skip rfl (fun _ => rfl) (fun _ => rfl) rfl) ?_
    refine GSteps.cons (gm_skip rfl (fun _ => rfl) (fun _ => rfl) rfl) ?_
    refine GSteps.cons (gm_skip rfl (fun _ => rfl) (fun _ => rfl) rfl) ?_
    refine GSteps.cons (gm_skip rfl (fun _ => rfl) (fun _ => rfl) rfl) ?_
    refine GSteps.cons (gm_val (v := .bool false) rfl (fun _ => rfl) (fun _ => rfl) (fun γ w h => ex_pick (r := false) rfl) rfl) ?_
    exact GSteps.nil
  intro _ w16 hb16 _ _
  refine th_r ?_
  have A17 := A12.keep hb16.out
  have A18 := A13.keep hb16.out
  have A19 := A14.keep hb16.out
  have HB20 := below_then HB15 hb16.out
  refine wp_cond_false rfl ?_
  refine wp_skip ?_
  refine th_r ?_
  refine wp_seq ?_
  refine wp_seq (region_m (F := fun _ => ⟨List.toArray ((sv [.n 6 x1.re.val, .n 6 x1.im.val, .n 6 y1.re.val, .n 6 y1.im.val, .b false]) :: (sv [.n 6 x2.re.val, .n 6 x2.im.val, .n 6 y2.re.val, .n 6 y2.im.val, .b false]) :: (sv [.n 6 x3.re.val, .n 6 x3.im.val, .n 6 y3.re.val, .n 6 y3.im.val, .b false]) :: (.pointer (some ⟨(γ1 0), 0, none⟩)) :: (.pointer (some ⟨(γ1 1), 0, none⟩)) :: (.pointer (some ⟨(γ1 2), 0, none⟩)) :: (.bool false) :: (.pointer (some ⟨(γ1 0), 24, none⟩)) :: (.bool false) :: undef :: undef :: undef :: (.pointer (some ⟨(γ1 1), 24, none⟩)) :: (.bool false) :: undef :: undef :: undef :: (.pointer (some ⟨(γ1 0), 0, none⟩)) :: (nv 6 [x1.re.val, x1.im.val]) :: (.pointer (some ⟨(γ1 1), 0, none⟩)) :: (nv 6 [x2.re.val, x2.im.val]) :: (.bool false) :: (.bool false) :: undef :: undef :: undef :: undef :: undef :: undef :: (.bool false) :: undef :: undef :: undef :: (sv [.n 6 x3.re.val, .n 6 x3.im.val, .n 6 y3.re.val, .n 6 y3.im.val, .b false]) :: (.bool true) :: (.bool false) :: (.bool false) :: (.pointer (some ⟨(γ1 2), 24, none⟩)) :: (.bool false) :: (.bool false) :: undef :: undef :: undef :: undef :: undef :: undef :: undef :: undef :: undef :: undef :: undef :: undef :: undef :: undef :: undef :: undef :: undef :: undef :: undef :: undef :: undef :: undef :: undef :: undef :: undef :: undef :: undef :: undef :: undef :: undef :: undef :: undef :: undef :: undef :: []), []⟩) 0 (fun _ => 0) (fun _ => 0) (fun _ => 0) (fun _ => []) (fun _ => []) [33, 34, 35, 36, 37, 38, 39] (.inr ⟨rfl, by kernel_rfl⟩) (by kernel_rfl) rfl rfl rfl ?_ ?_)
  · refine GSteps.cons (gm_val (v := sv [.n 6 x3.re.val, .n 6 x3.im.val, .n 6 y3.re.val, .n 6 y3.im.val, .b false]) rfl (fun _ => rfl) (fun _ => rfl) (fun γ w h => ex_loads 0 5 (m := [.n 6 x3.re.val, .n 6 x3.im.val, .n 6 y3.re.val, .n 6 y3.im.val, .b false]) flG2 rfl rfl (A19.keep h.out) rfl rfl) rfl) ?_
    refine GSteps.cons (gm_call (v := .bool true) rfl (fun _ => rfl) (fun _ => rfl) (fun γ w => ex_call (vs := [sv [.n 6 x3.re.val, .n 6 x3.im.val, .n 6 y3.re.val, .n 6 y3.im.val, .b false]]) rfl Tryz.call9 rfl) (fun w h => hR _) rfl) ?_
    refine GSteps.cons (gm_val (v := .bool false) rfl (fun _ => rfl) (fun _ => rfl) (fun γ w h => ex_not (r := true) rfl) rfl) ?_
    refine GSteps.cons (gm_val (v := .bool false) rfl (fun _ => rfl) (fun _ => rfl) (fun γ w h => ex_move _) rfl) ?_
    refine GSteps.cons (gm_valg (fun γ => .pointer (some ⟨(γ1 2), 24, none⟩)) rfl (fun _ => rfl) (fun _ => rfl) (fun γ w h => ex_field faG2_2 rfl) rfl) ?_
    refine GSteps.cons (gm_val (v := .bool false) rfl (fun _ => rfl) (fun _ => rfl) (fun γ w h => ex_load1 4 (s := .b false) (v := .bool false) sgBool rfl (A19.keep h.out) rfl rfl rfl) rfl) ?_
    refine GSteps.cons (gm_val (v := .bool false) rfl (fun _ => rfl) (fun _ => rfl) (fun γ w h => ex_pick (r := false) rfl) rfl) ?_
    exact GSteps.nil
  intro _ w21 hb21 _ _
  refine th_r ?_
  have A22 := A17.keep hb21.out
  have A23 := A18.keep hb21.out
  have A24 := A19.keep hb21.out
  have HB25 := below_then HB20 hb21.out
  refine wp_cond_false rfl ?_
  refine wp_skip ?_
  refine th_r ?_
  refine wp_seq ?_
  refine wp_seq (region_m (F := fun _ => ⟨List.toArray ((sv [.n 6 x1.re.val, .n 6 x1.im.val, .n 6 y1.re.val, .n 6 y1.im.val, .b false]) :: (sv [.n 6 x2.re.val, .n 6 x2.im.val, .n 6 y2.re.val, .n 6 y2.im.val, .b false]) :: (sv [.n 6 x3.re.val, .n 6 x3.im.val, .n 6 y3.re.val, .n 6 y3.im.val, .b false]) :: (.pointer (some ⟨(γ1 0), 0, none⟩)) :: (.pointer (some ⟨(γ1 1), 0, none⟩)) :: (.pointer (some ⟨(γ1 2), 0, none⟩)) :: (.bool false) :: (.pointer (some ⟨(γ1 0), 24, none⟩)) :: (.bool false) :: undef :: undef :: undef :: (.pointer (some ⟨(γ1 1), 24, none⟩)) :: (.bool false) :: undef :: undef :: undef :: (.pointer (some ⟨(γ1 0), 0, none⟩)) :: (nv 6 [x1.re.val, x1.im.val]) :: (.pointer (some ⟨(γ1 1), 0, none⟩)) :: (nv 6 [x2.re.val, x2.im.val]) :: (.bool false) :: (.bool false) :: undef :: undef :: undef :: undef :: undef :: undef :: (.bool false) :: undef :: undef :: undef :: (sv [.n 6 x3.re.val, .n 6 x3.im.val, .n 6 y3.re.val, .n 6 y3.im.val, .b false]) :: (.bool true) :: (.bool false) :: (.bool false) :: (.pointer (some ⟨(γ1 2), 24, none⟩)) :: (.bool false) :: (.bool false) :: (.pointer (some ⟨(γ1 0), 0, none⟩)) :: (nv 6 [x1.re.val, x1.im.val]) :: (.pointer (some ⟨(γ1 1), 0, none⟩)) :: (nv 6 [x2.re.val, x2.im.val]) :: (.bool false) :: undef :: undef :: undef :: undef :: undef :: undef :: undef :: undef :: undef :: undef :: undef :: undef :: undef :: undef :: undef :: undef :: undef :: undef :: undef :: undef :: undef :: undef :: undef :: undef :: undef :: undef :: undef :: undef :: undef :: []), []⟩) 0 (fun _ => 0) (fun _ => 0) (fun _ => 0) (fun _ => []) (fun _ => []) [40, 41, 42, 43, 44] (.inr ⟨rfl, by kernel_rfl⟩) (by kernel_rfl) rfl rfl rfl ?_ ?_)
  · refine GSteps.cons (gm_valg (fun γ => .pointer (some ⟨(γ1 0), 0, none⟩)) rfl (fun _ => rfl) (fun _ => rfl) (fun γ w h => ex_field faG2_0 rfl) rfl) ?_
    refine GSteps.cons (gm_val (v := nv 6 [x1.re.val, x1.im.val]) rfl (fun _ => rfl) (fun _ => rfl) (fun γ w h => ex_loadsn (K := 6) 0 2 (m := [x1.re.val, x1.im.val]) flFp2 rfl rfl (A22.keep h.out) rfl rfl) rfl) ?_
    refine GSteps.cons (gm_valg (fun γ => .pointer (some ⟨(γ1 1), 0, none⟩)) rfl (fun _ => rfl) (fun _ => rfl) (fun γ w h => ex_field faG2_0 rfl) rfl) ?_
    refine GSteps.cons (gm_val (v := nv 6 [x2.re.val, x2.im.val]) rfl (fun _ => rfl) (fun _ => rfl) (fun γ w h => ex_loadsn (K := 6) 0 2 (m := [x2.re.val, x2.im.val]) flFp2 rfl rfl (A23.keep h.out) rfl rfl) rfl) ?_
    refine GSteps.cons (gm_val (v := .bool false) rfl (fun _ => rfl) (fun _ => rfl) (fun γ w h => ex_eqzq x1 x2 rfl rfl rfl rfl false ⟨fun e => Bool.noConfusion e, fun e => absurd e hx⟩) rfl) ?_
    exact GSteps.nil
  intro _ w26 hb26 _ _
  refine th_r ?_
  have A27 := A22.keep hb26.out
  have A28 := A23.keep hb26.out
  have A29 := A24.keep hb26.out
  have HB30 := below_then HB25 hb26.out
  refine wp_cond_false rfl ?_
  refine wp_skip ?_
  refine th_r ?_
  refine wp_seq (region_m (F := fun _ => ⟨List.toArray ((sv [.n 6 x1.re.val, .n 6 x1.im.val, .n 6 y1.re.val, .n 6 y1.im.val, .b false]) :: (sv [.n 6 x2.re.val, .n 6 x2.im.val, .n 6 y2.re.val, .n 6 y2.im.val, .b false]) :: (sv [.n 6 x3.re.val, .n 6 x3.im.val, .n 6 y3.re.val, .n 6 y3.im.val, .b false]) :: (.pointer (some ⟨(γ1 0), 0, none⟩)) :: (.pointer (some ⟨(γ1 1), 0, none⟩)) :: (.pointer (some ⟨(γ1 2), 0, none⟩)) :: (.bool true) :: (.pointer (some ⟨(γ1 0), 24, none⟩)) :: (.bool false) :: undef :: undef :: undef :: (.pointer (some ⟨(γ1 1), 24, none⟩)) :: (.bool false) :: undef :: undef :: undef :: (.pointer (some ⟨(γ1 0), 0, none⟩)) :: (nv 6 [x1.re.val, x1.im.val]) :: (.pointer (some ⟨(γ1 1), 0, none⟩)) :: (nv 6 [x2.re.val, x2.im.val]) :: (.bool false) :: (.bool false) :: undef :: undef :: undef :: undef :: undef :: undef :: (.bool false) :: undef :: undef :: undef :: (sv [.n 6 x3.re.val, .n 6 x3.im.val, .n 6 y3.re.val, .n 6 y3.im.val, .b false]) :: (.bool true) :: (.bool false) :: (.bool false) :: (.pointer (some ⟨(γ1 2), 24, none⟩)) :: (.bool false) :: (.bool false) :: (.pointer (some ⟨(γ1 0), 0, none⟩)) :: (nv 6 [x1.re.val, x1.im.val]) :: (.pointer (some ⟨(γ1 1), 0, none⟩)) :: (nv 6 [x2.re.val, x2.im.val]) :: (.bool false) :: undef :: undef :: undef :: undef :: undef :: undef :: undef :: undef :: undef :: undef :: undef :: undef :: undef :: undef :: undef :: (sv [.n 6 x1.re.val, .n 6 x1.im.val, .n 6 y1.re.val, .n 6 y1.im.val, .b false]) :: (sv [.n 6 x2.re.val, .n 6 x2.im.val, .n 6 y2.re.val, .n 6 y2.im.val, .b false]) :: (sv [.n 6 x3.re.val, .n 6 x3.im.val, .n 6 y3.re.val, .n 6 y3.im.val, .b false]) :: (.pointer (some ⟨(γ1 1), 0, none⟩)) :: (nv 6 [x2.re.val, x2.im.val]) :: (.pointer (some ⟨(γ1 0), 0, none⟩)) :: (nv 6 [x1.re.val, x1.im.val]) :: (nv 6 [z1.re.val, z1.im.val]) :: (.pointer (some ⟨(γ1 1), 12, none⟩)) :: (nv 6 [y2.re.val, y2.im.val]) :: (.pointer (some ⟨(γ1 0), 12, none⟩)) :: (nv 6 [y1.re.val, y1.im.val]) :: (nv 6 [z2.re.val, z2.im.val]) :: (.bool true) :: []), []⟩) 0 (fun _ => 0) (fun _ => 0) (fun _ => 0) (fun _ => []) (fun _ => []) [60, 61, 62, 63, 64, 65, 66, 67, 68, 69, 70, 71, 72, 73, 6] (.inl ⟨rfl, by kernel_rfl⟩) (by kernel_rfl) rfl rfl rfl ?_ ?_)
  · refine GSteps.cons (gm_val (v := sv [.n 6 x1.re.val, .n 6 x1.im.val, .n 6 y1.re.val, .n 6 y1.im.val, .b false]) rfl (fun _ => rfl) (fun _ => rfl) (fun γ w h => ex_loads 0 5 (m := [.n 6 x1.re.val, .n 6 x1.im.val, .n 6 y1.re.val, .n 6 y1.im.val, .b false]) flG2 rfl rfl (A27.keep h.out) rfl rfl) rfl) ?_
    refine GSteps.cons (gm_val (v := sv [.n 6 x2.re.val, .n 6 x2.im.val, .n 6 y2.re.val, .n 6 y2.im.val, .b false]) rfl (fun _ => rfl) (fun _ => rfl) (fun γ w h => ex_loads 0 5 (m := [.n 6 x2.re.val, .n 6 x2.im.val, .n 6 y2.re.val, .n 6 y2.im.val, .b false]) flG2 rfl rfl (A28.keep h.out) rfl rfl) rfl) ?_
    refine GSteps.cons (gm_val (v := sv [.n 6 x3.re.val, .n 6 x3.im.val, .n 6 y3.re.val, .n 6 y3.im.val, .b false]) rfl (fun _ => rfl) (fun _ => rfl) (fun γ w h => ex_loads 0 5 (m := [.n 6 x3.re.val, .n 6 x3.im.val, .n 6 y3.re.val, .n 6 y3.im.val, .b false]) flG2 rfl rfl (A29.keep h.out) rfl rfl) rfl) ?_
    refine GSteps.cons (gm_valg (fun γ => .pointer (some ⟨(γ1 1), 0, none⟩)) rfl (fun _ => rfl) (fun _ => rfl) (fun γ w h => ex_field faG2_0 rfl) rfl) ?_
    refine GSteps.cons (gm_val (v := nv 6 [x2.re.val, x2.im.val]) rfl (fun _ => rfl) (fun _ => rfl) (fun γ w h => ex_loadsn (K := 6) 0 2 (m := [x2.re.val, x2.im.val]) flFp2 rfl rfl (A28.keep h.out) rfl rfl) rfl) ?_
    refine GSteps.cons (gm_valg (fun γ => .pointer (some ⟨(γ1 0), 0, none⟩)) rfl (fun _ => rfl) (fun _ => rfl) (fun γ w h => ex_field faG2_0 rfl) rfl) ?_
    refine GSteps.cons (gm_val (v := nv 6 [x1.re.val, x1.im.val]) rfl (fun _ => rfl) (fun _ => rfl) (fun γ w h => ex_loadsn (K := 6) 0 2 (m := [x1.re.val, x1.im.val]) flFp2 rfl rfl (A27.keep h.out) rfl rfl) rfl) ?_
    refine GSteps.cons (gm_call (v := nv 6 [z1.re.val, z1.im.val]) rfl (fun _ => rfl) (fun _ => rfl) (fun γ w => ex_call (vs := [nv 6 [x2.re.val, x2.im.val], nv 6 [x1.re.val, x1.im.val]]) rfl Tryz.call35 rfl) (fun w h => r5Sub_z x2 x1 z1 rfl rfl ez1 _) rfl) ?_
    refine GSteps.cons (gm_valg (fun γ => .pointer (some ⟨(γ1 1), 12, none⟩)) rfl (fun _ => rfl) (fun _ => rfl) (fun γ w h => ex_field faG2_1 rfl) rfl) ?_
    refine GSteps.cons (gm_val (v := nv 6 [y2.re.val, y2.im.val]) rfl (fun _ => rfl) (fun _ => rfl) (fun γ w h => ex_loadsn (K := 6) 2 2 (m := [y2.re.val, y2.im.val]) flFp2 rfl rfl (A28.keep h.out) rfl rfl) rfl) ?_
    refine GSteps.cons (gm_valg (fun γ => .pointer (some ⟨(γ1 0), 12, none⟩)) rfl (fun _ => rfl) (fun _ => rfl) (fun γ w h => ex_field faG2_1 rfl) rfl) ?_
    refine GSteps.cons (gm_val (v := nv 6 [y1.re.val, y1.im.val]) rfl (fun _ => rfl) (fun _ => rfl) (fun γ w h => ex_loadsn (K := 6) 2 2 (m := [y1.re.val, y1.im.val]) flFp2 rfl rfl (A27.keep h.out) rfl rfl) rfl) ?_
    refine GSteps.cons (gm_call (v := nv 6 [z2.re.val, z2.im.val]) rfl (fun _ => rfl) (fun _ => rfl) (fun γ w => ex_call (vs := [nv 6 [y2.re.val, y2.im.val], nv 6 [y1.re.val, y1.im.val]]) rfl Tryz.call35 rfl) (fun w h => r5Sub_z y2 y1 z2 rfl rfl ez2 _) rfl) ?_
    refine GSteps.cons (gm_call (v := .bool true) rfl (fun _ => rfl) (fun _ => rfl) (fun γ w => ex_call (vs := [sv [.n 6 x1.re.val, .n 6 x1.im.val, .n 6 y1.re.val, .n 6 y1.im.val, .b false], sv [.n 6 x2.re.val, .n 6 x2.im.val, .n 6 y2.re.val, .n 6 y2.im.val, .b false], sv [.n 6 x3.re.val, .n 6 x3.im.val, .n 6 y3.re.val, .n 6 y3.im.val, .b false], nv 6 [z1.re.val, z1.im.val], nv 6 [z2.re.val, z2.im.val]]) rfl Tryz.call33 rfl) (fun w h => r9chord_v x1 y1 x2 y2 x3 y3 z1 z2 (by rw [ez1, ez2]; exact h1) (by rw [ez1, ez2]; exact h2) _) rfl) ?_
    refine GSteps.cons (gm_val (v := .bool true) rfl (fun _ => rfl) (fun _ => rfl) (fun γ w h => ex_assign _) rfl) ?_
    exact GSteps.nil
  intro _ w31 hb31 _ _
  refine th_r ?_
  have A32 := A27.keep hb31.out
  have A33 := A28.keep hb31.out
  have A34 := A29.keep hb31.out
  have HB35 := below_then HB30 hb31.out
  exact wp_ret (bodyPost_ret (ret1 Tryz.results12 (res_tmp rfl)) rfl ⟨rfl, HB35⟩)

set_option maxRecDepth 20000 in
set_option maxHeartbeats 4000000 in
theorem r9Sum_tang (x y x3 y3 : Zq) (hy : y ≠ -y) (h1 : (x3 + (x + x)) * ((y + y) * (y + y)) = (3 * (x * x)) * (3 * (x * x))) (h2 : (y3 + y) * (y + y) = (3 * (x * x)) * (x - x3)) (hR : ∀ w, Calls Tryz.prog 9 #[sv [.n 6 x3.re.val, .n 6 x3.im.val, .n 6 y3.re.val, .n 6 y3.im.val, .b false]] w (Is (.bool true) w)) (w : World) :
    Calls Tryz.prog 12 #[sv [.n 6 x.re.val, .n 6 x.im.val, .n 6 y.re.val, .n 6 y.im.val, .b false], sv [.n 6 x.re.val, .n 6 x.im.val, .n 6 y.re.val, .n 6 y.im.val, .b false], sv [.n 6 x3.re.val, .n 6 x3.im.val, .n 6 y3.re.val, .n 6 y3.im.val, .b false]] w (Is (.bool true) w) := by
  obtain ⟨z1, ez1⟩ : ∃ q_ : Zq, q_ = -y := ⟨_, rfl⟩
  obtain ⟨z2, ez2⟩ : ∃ q_ : Zq, q_ = y + y := ⟨_, rfl⟩
  obtain ⟨z3, ez3⟩ : ∃ q_ : Zq, q_ = x * x := ⟨_, rfl⟩
  obtain ⟨z4, ez4⟩ : ∃ q_ : Zq, q_ = 3 * z3 := ⟨_, rfl⟩
  go_enter Tryz.func12, Tryz.ntmps12
  refine wp_seq (region_m (F := fun γ => ⟨List.toArray ((sv [.n 6 x.re.val, .n 6 x.im.val, .n 6 y.re.val, .n 6 y.im.val, .b false]) :: (sv [.n 6 x.re.val, .n 6 x.im.val, .n 6 y.re.val, .n 6 y.im.val, .b false]) :: (sv [.n 6 x3.re.val, .n 6 x3.im.val, .n 6 y3.re.val, .n 6 y3.im.val, .b false]) :: (.pointer (some ⟨γ 0, 0, none⟩)) :: (.pointer (some ⟨γ 1, 0, none⟩)) :: (.pointer (some ⟨γ 2, 0, none⟩)) :: (.bool false) :: undef :: undef :: undef :: undef :: undef :: undef :: undef :: undef :: undef :: undef :: undef :: undef :: undef :: undef :: undef :: undef :: undef :: undef :: undef :: undef :: undef :: undef :: undef :: undef :: undef :: undef :: undef :: undef :: undef :: undef :: undef :: undef :: undef :: undef :: undef :: undef :: undef :: undef :: undef :: undef :: undef :: undef :: undef :: undef :: undef :: undef :: undef :: undef :: undef :: undef :: undef :: undef :: undef :: undef :: undef :: undef :: undef :: undef :: undef :: undef :: undef :: undef :: undef :: undef :: undef :: undef :: undef :: []), []⟩) 3 (fun j_ => match j_ with | 0 => 28 | 1 => 28 | _ => 28) (fun j_ => match j_ with | 0 => 0 | 1 => 1 | _ => 2) (fun j_ => match j_ with | 0 => 0 | 1 => 1 | _ => 2) (fun j_ => match j_ with | 0 => segs [.n 6 x.re.val, .n 6 x.im.val, .n 6 y.re.val, .n 6 y.im.val, .b false] | 1 => segs [.n 6 x.re.val, .n 6 x.im.val, .n 6 y.re.val, .n 6 y.im.val, .b false] | _ => segs [.n 6 x3.re.val, .n 6 x3.im.val, .n 6 y3.re.val, .n 6 y3.im.val, .b false]) (fun j_ => match j_ with | 0 => segs [.n 6 x.re.val, .n 6 x.im.val, .n 6 y.re.val, .n 6 y.im.val, .b false] | 1 => segs [.n 6 x.re.val, .n 6 x.im.val, .n 6 y.re.val, .n 6 y.im.val, .b false] | _ => segs [.n 6 x3.re.val, .n 6 x3.im.val, .n 6 y3.re.val, .n 6 y3.im.val, .b false]) [3, 4, 5, 6] (.inr ⟨rfl, by kernel_rfl⟩) (by kernel_rfl) rfl rfl rfl ?_ ?_)
  · refine GSteps.cons (gm_box 0 rfl (fun _ => rfl) (fun _ _ => rfl) (fun γ w h => ex_boxs (l := [.n 6 x.re.val, .n 6 x.im.val, .n 6 y.re.val, .n 6 y.im.val, .b false]) rfl) rfl rfl rfl) ?_
    refine GSteps.cons (gm_box 1 rfl (fun _ => rfl) (fun _ _ => rfl) (fun γ w h => ex_boxs (l := [.n 6 x.re.val, .n 6 x.im.val, .n 6 y.re.val, .n 6 y.im.val, .b false]) rfl) rfl rfl rfl) ?_
    refine GSteps.cons (gm_box 2 rfl (fun _ => rfl) (fun _ _ => rfl) (fun γ w h => ex_boxs (l := [.n 6 x3.re.val, .n 6 x3.im.val, .n 6 y3.re.val, .n 6 y3.im.val, .b false]) rfl) rfl rfl rfl) ?_
    refine GSteps.cons (gm_val (v := .bool false) rfl (fun _ => rfl) (fun _ => rfl) (fun γ w h => ex_assign _) rfl) ?_
    exact GSteps.nil
  intro γ1 w1 hb1 hB1 hn1
  refine th_r ?_
  have A2 : SB 28 w1 (γ1 0) [.n 6 x.re.val, .n 6 x.im.val, .n 6 y.re.val, .n 6 y.im.val, .b false] := (hB1 0 (by decide)).2
  have le2 := (hB1 0 (by decide)).1
  have A3 : SB 28 w1 (γ1 1) [.n 6 x.re.val, .n 6 x.im.val, .n 6 y.re.val, .n 6 y.im.val, .b false] := (hB1 1 (by decide)).2
  have le3 := (hB1 1 (by decide)).1
  have A4 : SB 28 w1 (γ1 2) [.n 6 x3.re.val, .n 6 x3.im.val, .n 6 y3.re.val, .n 6 y3.im.val, .b false] := (hB1 2 (by decide)).2
  have le4 := (hB1 2 (by decide)).1
  have HB5 := below_then (Below.refl w.heap.size w) hb1.out
  refine wp_seq ?_
  refine wp_seq (region_m (F := fun _ => ⟨List.toArray ((sv [.n 6 x.re.val, .n 6 x.im.val, .n 6 y.re.val, .n 6 y.im.val, .b false]) :: (sv [.n 6 x.re.val, .n 6 x.im.val, .n 6 y.re.val, .n 6 y.im.val, .b false]) :: (sv [.n 6 x3.re.val, .n 6 x3.im.val, .n 6 y3.re.val, .n 6 y3.im.val, .b false]) :: (.pointer (some ⟨(γ1 0), 0, none⟩)) :: (.pointer (some ⟨(γ1 1), 0, none⟩)) :: (.pointer (some ⟨(γ1 2), 0, none⟩)) :: (.bool false) :: (.pointer (some ⟨(γ1 0), 24, none⟩)) :: (.bool false) :: undef :: undef :: undef :: undef :: undef :: undef :: undef :: undef :: undef :: undef :: undef :: undef :: undef :: undef :: undef :: undef :: undef :: undef :: undef :: undef :: undef :: undef :: undef :: undef :: undef :: undef :: undef :: undef :: undef :: undef :: undef :: undef :: undef :: undef :: undef :: undef :: undef :: undef :: undef :: undef :: undef :: undef :: undef :: undef :: undef :: undef :: undef :: undef :: undef :: undef :: undef :: undef :: undef :: undef :: undef :: undef :: undef :: undef :: undef :: undef :: undef :: undef :: undef :: undef :: undef :: []), []⟩) 0 (fun _ => 0) (fun _ => 0) (fun _ => 0) (fun _ => []) (fun _ => []) [7, 8] (.inr ⟨rfl, by kernel_rfl⟩) (by kernel_rfl) rfl rfl rfl ?_ ?_)
  · refine GSteps.cons (gm_valg (fun γ => .pointer (some ⟨(γ1 0), 24, none⟩)) rfl (fun _ => rfl) (fun _ => rfl) (fun γ w h => ex_field faG2_2 rfl) rfl) ?_
    refine GSteps.cons (gm_val (v := .bool false) rfl (fun _ => rfl) (fun _ => rfl) (fun γ w h => ex_load1 4 (s := .b false) (v := .bool false) sgBool rfl (A2.keep h.out) rfl rfl rfl) rfl) ?_
    exact GSteps.nil
  intro _ w6 hb6 _ _
  refine th_r ?_
  have A7 := A2.keep hb6.out
  have A8 := A3.keep hb6.out
  have A9 := A4.keep hb6.out
  have HB10 := below_then HB5 hb6.out
  refine wp_cond_false rfl ?_
  refine wp_skip ?_
  refine th_r ?_
  refine wp_seq ?_
  refine wp_seq (region_m (F := fun _ => ⟨List.toArray ((sv [.n 6 x.re.val, .n 6 x.im.val, .n 6 y.re.val, .n 6 y.im.val, .b false]) :: (sv [.n 6 x.re.val, .n 6 x.im.val, .n 6 y.re.val, .n 6 y.im.val, .b false]) :: (sv [.n 6 x3.re.val, .n 6 x3.im.val, .n 6 y3.re.val, .n 6 y3.im.val, .b false]) :: (.pointer (some ⟨(γ1 0), 0, none⟩)) :: (.pointer (some ⟨(γ1 1), 0, none⟩)) :: (.pointer (some ⟨(γ1 2), 0, none⟩)) :: (.bool false) :: (.pointer (some ⟨(γ1 0), 24, none⟩)) :: (.bool false) :: undef :: undef :: undef :: (.pointer (some ⟨(γ1 1), 24, none⟩)) :: (.bool false) :: undef :: undef :: undef :: undef :: undef :: undef :: undef :: undef :: undef :: undef :: undef :: undef :: undef :: undef :: undef :: undef :: undef :: undef :: undef :: undef :: undef :: undef :: undef :: undef :: undef :: undef :: undef :: undef :: undef :: undef :: undef :: undef :: undef :: undef :: undef :: undef :: undef :: undef :: undef :: undef :: undef :: undef :: undef :: undef :: undef :: undef :: undef :: undef :: undef :: undef :: undef :: undef :: undef :: undef :: undef :: undef :: undef :: undef :: undef :: undef :: []), []⟩) 0 (fun _ => 0) (fun _ => 0) (fun _ => 0) (fun _ => []) (fun _ => []) [12, 13] (.inr ⟨rfl, by kernel_rfl⟩) (by kernel_rfl) rfl rfl rfl ?_ ?_)
  · refine GSteps.cons (gm_valg (fun γ => .pointer (some ⟨(γ1 1), 24, none⟩)) rfl (fun _ => rfl) (fun _ => rfl) (fun γ w h => ex_field faG2_2 rfl) rfl) ?_
    refine GSteps.cons (gm_val (v := .bool false) rfl (fun _ => rfl) (fun _ => rfl) (fun γ w h => ex_load1 4 (s := .b false) (v := .bool false) sgBool rfl (A8.keep h.out) rfl rfl rfl) rfl) ?_
    exact GSteps.nil
  intro _ w11 hb11 _ _
  refine th_r ?_
  have A12 := A7.keep hb11.out
  have A13 := A8.keep hb11.out
  have A14 := A9.keep hb11.out
  have HB15 := below_then HB10 hb11.out
  refine wp_cond_false rfl ?_
  refine wp_skip ?_
  refine th_r ?_
  refine wp_seq ?_
  refine wp_seq (region_m (F := fun _ => ⟨List.toArray ((sv [.n 6 x.re.val, .n 6 x.im.val, .n 6 y.re.val, .n 6 y.im.val, .b false]) :: (sv [.n 6 x.re.val, .n 6 x.im.val, .n 6 y.re.val, .n 6 y.im.val, .b false]) :: (sv [.n 6 x3.re.val, .n 6 x3.im.val, .n 6 y3.re.val, .n 6 y3.im.val, .b false]) :: (.pointer (some ⟨(γ1 0), 0, none⟩)) :: (.pointer (some ⟨(γ1 1), 0, none⟩)) :: (.pointer (some ⟨(γ1 2), 0, none⟩)) :: (.bool false) :: (.pointer (some ⟨(γ1 0), 24, none⟩)) :: (.bool false) :: undef :: undef :: undef :: (.pointer (some ⟨(γ1 1), 24, none⟩)) :: (.bool false) :: undef :: undef :: undef :: (.pointer (some ⟨(γ1 0), 0, none⟩)) :: (nv 6 [x.re.val, x.im.val]) :: (.pointer (some ⟨(γ1 1), 0, none⟩)) :: (nv 6 [x.re.val, x.im.val]) :: (.bool true) :: (.bool true) :: (.pointer (some ⟨(γ1 0), 12, none⟩)) :: (nv 6 [y.re.val, y.im.val]) :: (.pointer (some ⟨(γ1 1), 12, none⟩)) :: (nv 6 [y.re.val, y.im.val]) :: (nv 6 [z1.re.val, z1.im.val]) :: (.bool false) :: (.bool false) :: undef :: undef :: undef :: undef :: undef :: undef :: undef :: undef :: undef :: undef :: undef :: undef :: undef :: undef :: undef :: undef :: undef :: undef :: undef :: undef :: undef :: undef :: undef :: undef :: undef :: undef :: undef :: undef :: undef :: undef :: undef :: undef :: undef :: undef :: undef :: undef :: undef :: undef :: undef :: undef :: undef :: undef :: undef :: undef :: []), []⟩) 0 (fun _ => 0) (fun _ => 0) (fun _ => 0) (fun _ => []) (fun _ => []) [17, 18, 19, 20, 21, 22, 23, 24, 25, 26, 27, 28, 29] (.inl ⟨rfl, by kernel_rfl⟩) (by kernel_rfl) rfl rfl rfl ?_ ?_)
  · refine GSteps.cons (gm_valg (fun γ => .pointer (some ⟨(γ1 0), 0, none⟩)) rfl (fun _ => rfl) (fun _ => rfl) (fun γ w h => ex_field faG2_0 rfl) rfl) ?_
    refine GSteps.cons (gm_val (v := nv 6 [x.re.val, x.im.val]) rfl (fun _ => rfl) (fun _ => rfl) (fun γ w h => ex_loadsn (K := 6) 0 2 (m := [x.re.val, x.im.val]) flFp2 rfl rfl (A12.keep h.out) rfl rfl) rfl) ?_
    refine GSteps.cons (gm_valg (fun γ => .pointer (some ⟨(γ1 1), 0, none⟩)) rfl (fun _ => rfl) (fun _ => rfl) (fun γ w h => ex_field faG2_0 rfl) rfl) ?_
    refine GSteps.cons (gm_val (v := nv 6 [x.re.val, x.im.val]) rfl (fun _ => rfl) (fun _ => rfl) (fun γ w h => ex_loadsn (K := 6) 0 2 (m := [x.re.val, x.im.val]) flFp2 rfl rfl (A13.keep h.out) rfl rfl) rfl) ?_
    refine GSteps.cons (gm_val (v := .bool true) rfl (fun _ => rfl) (fun _ => rfl) (fun γ w h => ex_eqt (K := 6) (l := [x.re.val, x.im.val]) eqFp2 rfl rfl rfl rfl) rfl) ?_
    refine GSteps.cons (gm_val (v := .bool true) rfl (fun _ => rfl) (fun _ => rfl) (fun γ w h => ex_move _) rfl) ?_
    refine GSteps.cons (gm_valg (fun γ => .pointer (some ⟨(γ1 0), 12, none⟩)) rfl (fun _ => rfl) (fun _ => rfl) (fun γ w h => ex_field faG2_1 rfl) rfl) ?_
    refine GSteps.cons (gm_val (v := nv 6 [y.re.val, y.im.val]) rfl (fun _ => rfl) (fun _ => rfl) (fun γ w h => ex_loadsn (K := 6) 2 2 (m := [y.re.val, y.im.val]) flFp2 rfl rfl (A12.keep h.out) rfl rfl) rfl) ?_
    refine GSteps.cons (gm_valg (fun γ => .pointer (some ⟨(γ1 1), 12, none⟩)) rfl (fun _ => rfl) (fun _ => rfl) (fun γ w h => ex_field faG2_1 rfl) rfl) ?_
    refine GSteps.cons (gm_val (v := nv 6 [y.re.val, y.im.val]) rfl (fun _ => rfl) (fun _ => rfl) (fun γ w h => ex_loadsn (K := 6) 2 2 (m := [y.re.val, y.im.val]) flFp2 rfl rfl (A13.keep h.out) rfl rfl) rfl) ?_
    refine GSteps.cons (gm_call (v := nv 6 [z1.re.val, z1.im.val]) rfl (fun _ => rfl) (fun _ => rfl) (fun γ w => ex_call (vs := [nv 6 [y.re.val, y.im.val]]) rfl Tryz.call30 rfl) (fun w h => r5Neg_z y z1 rfl ez1 _) rfl) ?_
    refine GSteps.cons (gm_val (v := .bool false) rfl (fun _ => rfl) (fun _ => rfl) (fun γ w h => ex_eqzq y z1 rfl rfl rfl rfl false ⟨fun e => Bool.noConfusion e, fun e => absurd (e.trans ez1) hy⟩) rfl) ?_
    refine GSteps.cons (gm_val (v := .bool false) rfl (fun _ => rfl) (fun _ => rfl) (fun γ w h => ex_pick (r := true) rfl) rfl) ?_
    exact GSteps.nil
  intro _ w16 hb16 _ _
  refine th_r ?_
  have A17 := A12.keep hb16.out
  have A18 := A13.keep hb16.out
  have A19 := A14.keep hb16.out
  have HB20 := below_then HB15 hb16.out
  refine wp_cond_false rfl ?_
  refine wp_skip ?_
  refine th_r ?_
  refine wp_seq ?_
  refine wp_seq (region_m (F := fun _ => ⟨List.toArray ((sv [.n 6 x.re.val, .n 6 x.im.val, .n 6 y.re.val, .n 6 y.im.val, .b false]) :: (sv [.n 6 x.re.val, .n 6 x.im.val, .n 6 y.re.val, .n 6 y.im.val, .b false]) :: (sv [.n 6 x3.re.val, .n 6 x3.im.val, .n 6 y3.re.val, .n 6 y3.im.val, .b false]) :: (.pointer (some ⟨(γ1 0), 0, none⟩)) :: (.pointer (some ⟨(γ1 1), 0, none⟩)) :: (.pointer (some ⟨(γ1 2), 0, none⟩)) :: (.bool false) :: (.pointer (some ⟨(γ1 0), 24, none⟩)) :: (.bool false) :: undef :: undef :: undef :: (.pointer (some ⟨(γ1 1), 24, none⟩)) :: (.bool false) :: undef :: undef :: undef :: (.pointer (some ⟨(γ1 0), 0, none⟩)) :: (nv 6 [x.re.val, x.im.val]) :: (.pointer (some ⟨(γ1 1), 0, none⟩)) :: (nv 6 [x.re.val, x.im.val]) :: (.bool true) :: (.bool true) :: (.pointer (some ⟨(γ1 0), 12, none⟩)) :: (nv 6 [y.re.val, y.im.val]) :: (.pointer (some ⟨(γ1 1), 12, none⟩)) :: (nv 6 [y.re.val, y.im.val]) :: (nv 6 [z1.re.val, z1.im.val]) :: (.bool false) :: (.bool false) :: undef :: undef :: undef :: (sv [.n 6 x3.re.val, .n 6 x3.im.val, .n 6 y3.re.val, .n 6 y3.im.val, .b false]) :: (.bool true) :: (.bool false) :: (.bool false) :: (.pointer (some ⟨(γ1 2), 24, none⟩)) :: (.bool false) :: (.bool false) :: undef :: undef :: undef :: undef :: undef :: undef :: undef :: undef :: undef :: undef :: undef :: undef :: undef :: undef :: undef :: undef :: undef :: undef :: undef :: undef :: undef :: undef :: undef :: undef :: undef :: undef :: undef :: undef :: undef :: undef :: undef :: undef :: undef :: undef :: []), []⟩) 0 (fun _ => 0) (fun _ => 0) (fun _ => 0) (fun _ => []) (fun _ => []) [33, 34, 35, 36, 37, 38, 39] (.inr ⟨rfl, by kernel_rfl⟩) (by kernel_rfl) rfl rfl rfl ?_ ?_)
  · refine GSteps.cons (gm_val (v := sv [.n 6 x3.re.val, .n 6 x3.im.val, .n 6 y3.re.val, .n 6 y3.im.val, .b false]) rfl (fun _ => rfl) (fun _ => rfl) (fun γ w h => ex_loads 0 5 (m := [.n 6 x3.re.val, .n 6 x3.im.val, .n 6 y3.re.val, .n 6 y3.im.val, .b false]) flG2 rfl rfl (A19.keep h.out) rfl rfl) rfl) ?_
    refine GSteps.cons (gm_call (v := .bool true) rfl (fun _ => rfl) (fun _ => rfl) (fun γ w => ex_call (vs := [sv [.n 6 x3.re.val, .n 6 x3.im.val, .n 6 y3.re.val, .n 6 y3.im.val, .b false]]) rfl Tryz.call9 rfl) (fun w h => hR _) rfl) ?_
    refine GSteps.cons (gm_val (v := .bool false) rfl (fun _ => rfl) (fun _ => rfl) (fun γ w h => ex_not (r := true) rfl) rfl) ?_
    refine GSteps.cons (gm_val (v := .bool false) rfl (fun _ => rfl) (fun _ => rfl) (fun γ w h => ex_move _) rfl) ?_
    refine GSteps.cons (gm_valg (fun γ => .pointer (some ⟨(γ1 2), 24, none⟩)) rfl (fun _ => rfl) (fun _ => rfl) (fun γ w h => ex_field faG2_2 rfl) rfl) ?_
    refine GSteps.cons (gm_val (v := .bool false) rfl (fun _ => rfl) (fun _ => rfl) (fun γ w h => ex_load1 4 (s := .b false) (v := .bool false) sgBool rfl (A19.keep h.out) rfl rfl rfl) rfl) ?_
    refine GSteps.cons (gm_val (v := .bool false) rfl (fun _ => rfl) (fun _ => rfl) (fun γ w h => ex_pick (r := false) rfl) rfl) ?_
    exact GSteps.nil
  intro _ w21 hb21 _ _
  refine th_r ?_
  have A22 := A17.keep hb21.out
  have A23 := A18.keep hb21.out
  have A24 := A19.keep hb21.out
  have HB25 := below_then HB20 hb21.out
  refine wp_cond_false rfl ?_
  refine wp_skip ?_
  refine th_r ?_
  refine wp_seq ?_
  refine wp_seq (region_m (F := fun _ => ⟨List.toArray ((sv [.n 6 x.re.val, .n 6 x.im.val, .n 6 y.re.val, .n 6 y.im.val, .b false]) :: (sv [.n 6 x.re.val, .n 6 x.im.val, .n 6 y.re.val, .n 6 y.im.val, .b false]) :: (sv [.n 6 x3.re.val, .n 6 x3.im.val, .n 6 y3.re.val, .n 6 y3.im.val, .b false]) :: (.pointer (some ⟨(γ1 0), 0, none⟩)) :: (.pointer (some ⟨(γ1 1), 0, none⟩)) :: (.pointer (some ⟨(γ1 2), 0, none⟩)) :: (.bool false) :: (.pointer (some ⟨(γ1 0), 24, none⟩)) :: (.bool false) :: undef :: undef :: undef :: (.pointer (some ⟨(γ1 1), 24, none⟩)) :: (.bool false) :: undef :: undef :: undef :: (.pointer (some ⟨(γ1 0), 0, none⟩)) :: (nv 6 [x.re.val, x.im.val]) :: (.pointer (some ⟨(γ1 1), 0, none⟩)) :: (nv 6 [x.re.val, x.im.val]) :: (.bool true) :: (.bool true) :: (.pointer (some ⟨(γ1 0), 12, none⟩)) :: (nv 6 [y.re.val, y.im.val]) :: (.pointer (some ⟨(γ1 1), 12, none⟩)) :: (nv 6 [y.re.val, y.im.val]) :: (nv 6 [z1.re.val, z1.im.val]) :: (.bool false) :: (.bool false) :: undef :: undef :: undef :: (sv [.n 6 x3.re.val, .n 6 x3.im.val, .n 6 y3.re.val, .n 6 y3.im.val, .b false]) :: (.bool true) :: (.bool false) :: (.bool false) :: (.pointer (some ⟨(γ1 2), 24, none⟩)) :: (.bool false) :: (.bool false) :: (.pointer (some ⟨(γ1 0), 0, none⟩)) :: (nv 6 [x.re.val, x.im.val]) :: (.pointer (some ⟨(γ1 1), 0, none⟩)) :: (nv 6 [x.re.val, x.im.val]) :: (.bool true) :: undef :: undef :: undef :: undef :: undef :: undef :: undef :: undef :: undef :: undef :: undef :: undef :: undef :: undef :: undef :: undef :: undef :: undef :: undef :: undef :: undef :: undef :: undef :: undef :: undef :: undef :: undef :: undef :: undef :: []), []⟩) 0 (fun _ => 0) (fun _ => 0) (fun _ => 0) (fun _ => []) (fun _ => []) [40, 41, 42, 43, 44] (.inr ⟨rfl, by kernel_rfl⟩) (by kernel_rfl) rfl rfl rfl ?_ ?_)
  · refine GSteps.cons (gm_valg (fun γ => .pointer (some ⟨(γ1 0), 0, none⟩)) rfl (fun _ => rfl) (fun _ => rfl) (fun γ w h => ex_field faG2_0 rfl) rfl) ?_
    refine GSteps.cons (gm_val (v := nv 6 [x.re.val, x.im.val]) rfl (fun _ => rfl) (fun _ => rfl) (fun γ w h => ex_loadsn (K := 6) 0 2 (m := [x.re.val, x.im.val]) flFp2 rfl rfl (A22.keep h.out) rfl rfl) rfl) ?_
    refine GSteps.cons (gm_valg (fun γ => .pointer (some ⟨(γ1 1), 0, none⟩)) rfl (fun _ => rfl) (fun _ => rfl) (fun γ w h => ex_field faG2_0 rfl) rfl) ?_
    refine GSteps.cons (gm_val (v := nv 6 [x.re.val, x.im.val]) rfl (fun _ => rfl) (fun _ => rfl) (fun γ w h => ex_loadsn (K := 6) 0 2 (m := [x.re.val, x.im.val]) flFp2 rfl rfl (A23.keep h.out) rfl rfl) rfl) ?_
    refine GSteps.cons (gm_val (v := .bool true) rfl (fun _ => rfl) (fun _ => rfl) (fun γ w h => ex_eqt (K := 6) (l := [x.re.val, x.im.val]) eqFp2 rfl rfl rfl rfl) rfl) ?_
    exact GSteps.nil
  intro _ w26 hb26 _ _
  refine th_r ?_
  have A27 := A22.keep hb26.out
  have A28 := A23.keep hb26.out
  have A29 := A24.keep hb26.out
  have HB30 := below_then HB25 hb26.out
  refine wp_cond_true rfl ?_
  refine wp_seq (region_m (F := fun _ => ⟨List.toArray ((sv [.n 6 x.re.val, .n 6 x.im.val, .n 6 y.re.val, .n 6 y.im.val, .b false]) :: (sv [.n 6 x.re.val, .n 6 x.im.val, .n 6 y.re.val, .n 6 y.im.val, .b false]) :: (sv [.n 6 x3.re.val, .n 6 x3.im.val, .n 6 y3.re.val, .n 6 y3.im.val, .b false]) :: (.pointer (some ⟨(γ1 0), 0, none⟩)) :: (.pointer (some ⟨(γ1 1), 0, none⟩)) :: (.pointer (some ⟨(γ1 2), 0, none⟩)) :: (.bool true) :: (.pointer (some ⟨(γ1 0), 24, none⟩)) :: (.bool false) :: undef :: undef :: undef :: (.pointer (some ⟨(γ1 1), 24, none⟩)) :: (.bool false) :: undef :: undef :: undef :: (.pointer (some ⟨(γ1 0), 0, none⟩)) :: (nv 6 [x.re.val, x.im.val]) :: (.pointer (some ⟨(γ1 1), 0, none⟩)) :: (nv 6 [x.re.val, x.im.val]) :: (.bool true) :: (.bool true) :: (.pointer (some ⟨(γ1 0), 12, none⟩)) :: (nv 6 [y.re.val, y.im.val]) :: (.pointer (some ⟨(γ1 1), 12, none⟩)) :: (nv 6 [y.re.val, y.im.val]) :: (nv 6 [z1.re.val, z1.im.val]) :: (.bool false) :: (.bool false) :: undef :: undef :: undef :: (sv [.n 6 x3.re.val, .n 6 x3.im.val, .n 6 y3.re.val, .n 6 y3.im.val, .b false]) :: (.bool true) :: (.bool false) :: (.bool false) :: (.pointer (some ⟨(γ1 2), 24, none⟩)) :: (.bool false) :: (.bool false) :: (.pointer (some ⟨(γ1 0), 0, none⟩)) :: (nv 6 [x.re.val, x.im.val]) :: (.pointer (some ⟨(γ1 1), 0, none⟩)) :: (nv 6 [x.re.val, x.im.val]) :: (.bool true) :: (sv [.n 6 x.re.val, .n 6 x.im.val, .n 6 y.re.val, .n 6 y.im.val, .b false]) :: (sv [.n 6 x.re.val, .n 6 x.im.val, .n 6 y.re.val, .n 6 y.im.val, .b false]) :: (sv [.n 6 x3.re.val, .n 6 x3.im.val, .n 6 y3.re.val, .n 6 y3.im.val, .b false]) :: (.pointer (some ⟨(γ1 0), 12, none⟩)) :: (nv 6 [y.re.val, y.im.val]) :: (.pointer (some ⟨(γ1 0), 12, none⟩)) :: (nv 6 [y.re.val, y.im.val]) :: (nv 6 [z2.re.val, z2.im.val]) :: (.pointer (some ⟨(γ1 0), 0, none⟩)) :: (nv 6 [x.re.val, x.im.val]) :: (.pointer (some ⟨(γ1 0), 0, none⟩)) :: (nv 6 [x.re.val, x.im.val]) :: (nv 6 [z3.re.val, z3.im.val]) :: (nv 6 [z4.re.val, z4.im.val]) :: (.bool true) :: undef :: undef :: undef :: undef :: undef :: undef :: undef :: undef :: undef :: undef :: undef :: undef :: undef :: undef :: []), []⟩) 0 (fun _ => 0) (fun _ => 0) (fun _ => 0) (fun _ => []) (fun _ => []) [45, 46, 47, 48, 49, 50, 51, 52, 53, 54, 55, 56, 57, 58, 59, 6] (.inl ⟨rfl, by kernel_rfl⟩) (by kernel_rfl) rfl rfl rfl ?_ ?_)
  · refine GSteps.cons (gm_val (v := sv [.n 6 x.re.val, .n 6 x.im.val, .n 6 y.re.val, .n 6 y.im.val, .b false]) rfl (fun _ => rfl) (fun _ => rfl) (fun γ w h => ex_loads 0 5 (m := [.n 6 x.re.val, .n 6 x.im.val, .n 6 y.re.val, .n 6 y.im.val, .b false]) flG2 rfl rfl (A27.keep h.out) rfl rfl) rfl) ?_
    refine GSteps.cons (gm_val (v := sv [.n 6 x.re.val, .n 6 x.im.val, .n 6 y.re.val, .n 6 y.im.val, .b false]) rfl (fun _ => rfl) (fun _ => rfl) (fun γ w h => ex_loads 0 5 (m := [.n 6 x.re.val, .n 6 x.im.val, .n 6 y.re.val, .n 6 y.im.val, .b false]) flG2 rfl rfl (A27.keep h.out) rfl rfl) rfl) ?_
    refine GSteps.cons (gm_val (v := sv [.n 6 x3.re.val, .n 6 x3.im.val, .n 6 y3.re.val, .n 6 y3.im.val, .b false]) rfl (fun _ => rfl) (fun _ => rfl) (fun γ w h => ex_loads 0 5 (m := [.n 6 x3.re.val, .n 6 x3.im.val, .n 6 y3.re.val, .n 6 y3.im.val, .b false]) flG2 rfl rfl (A29.keep h.out) rfl rfl) rfl) ?_
    refine GSteps.cons (gm_valg (fun γ => .pointer (some ⟨(γ1 0), 12, none⟩)) rfl (fun _ => rfl) (fun _ => rfl) (fun γ w h => ex_field faG2_1 rfl) rfl) ?_
    refine GSteps.cons (gm_val (v := nv 6 [y.re.val, y.im.val]) rfl (fun _ => rfl) (fun _ => rfl) (fun γ w h => ex_loadsn (K := 6) 2 2 (m := [y.re.val, y.im.val]) flFp2 rfl rfl (A27.keep h.out) rfl rfl) rfl) ?_
    refine GSteps.cons (gm_valg (fun γ => .pointer (some ⟨(γ1 0), 12, none⟩)) rfl (fun _ => rfl) (fun _ => rfl) (fun γ w h => ex_field faG2_1 rfl) rfl) ?_
    refine GSteps.cons (gm_val (v := nv 6 [y.re.val, y.im.val]) rfl (fun _ => rfl) (fun _ => rfl) (fun γ w h => ex_loadsn (K := 6) 2 2 (m := [y.re.val, y.im.val]) flFp2 rfl rfl (A27.keep h.out) rfl rfl) rfl) ?_
    refine GSteps.cons (gm_call (v := nv 6 [z2.re.val, z2.im.val]) rfl (fun _ => rfl) (fun _ => rfl) (fun γ w => ex_call (vs := [nv 6 [y.re.val, y.im.val], nv 6 [y.re.val, y.im.val]]) rfl Tryz.call29 rfl) (fun w h => r5Add_z y y z2 rfl rfl ez2 _) rfl) ?_
    refine GSteps.cons (gm_valg (fun γ => .pointer (some ⟨(γ1 0), 0, none⟩)) rfl (fun _ => rfl) (fun _ => rfl) (fun γ w h => ex_field faG2_0 rfl) rfl) ?_
    refine GSteps.cons (gm_val (v := nv 6 [x.re.val, x.im.val]) rfl (fun _ => rfl) (fun _ => rfl) (fun γ w h => ex_loadsn (K := 6) 0 2 (m := [x.re.val, x.im.val]) flFp2 rfl rfl (A27.keep h.out) rfl rfl) rfl) ?_
    refine GSteps.cons (gm_valg (fun γ => .pointer (some ⟨(γ1 0), 0, none⟩)) rfl (fun _ => rfl) (fun _ => rfl) (fun γ w h => ex_field faG2_0 rfl) rfl) ?_
    refine GSteps.cons (gm_val (v := nv 6 [x.re.val, x.im.val]) rfl (fun _ => rfl) (fun _ => rfl) (fun γ w h => ex_loadsn (K := 6) 0 2 (m := [x.re.val, x.im.val]) flFp2 rfl rfl (A27.keep h.out) rfl rfl) rfl) ?_
    refine GSteps.cons (gm_call (v := nv 6 [z3.re.val, z3.im.val]) rfl (fun _ => rfl) (fun _ => rfl) (fun γ w => ex_call (vs := [nv 6 [x.re.val, x.im.val], nv 6 [x.re.val, x.im.val]]) rfl Tryz.call28 rfl) (fun w h => r5Mul_z x x z3 rfl rfl ez3 _) rfl) ?_
    refine GSteps.cons (gm_call (v := nv 6 [z4.re.val, z4.im.val]) rfl (fun _ => rfl) (fun _ => rfl) (fun γ w => ex_call (vs := [nv 6 [z3.re.val, z3.im.val]]) rfl Tryz.call34 rfl) (fun w h => r9three_e z3 z4 rfl ez4 _) rfl) ?_
    refine GSteps.cons (gm_call (v := .bool true) rfl (fun _ => rfl) (fun _ => rfl) (fun γ w => ex_call (vs := [sv [.n 6 x.re.val, .n 6 x.im.val, .n 6 y.re.val, .n 6 y.im.val, .b false], sv [.n 6 x.re.val, .n 6 x.im.val, .n 6 y.re.val, .n 6 y.im.val, .b false], sv [.n 6 x3.re.val, .n 6 x3.im.val, .n 6 y3.re.val, .n 6 y3.im.val, .b false], nv 6 [z2.re.val, z2.im.val], nv 6 [z4.re.val, z4.im.val]]) rfl Tryz.call33 rfl) (fun w h => r9chord_v x y x y x3 y3 z2 z4 (by rw [ez2, ez4, ez3]; exact h1) (by rw [ez2, ez4, ez3]; exact h2) _) rfl) ?_
    refine GSteps.cons (gm_val (v := .bool true) rfl (fun _ => rfl) (fun _ => rfl) (fun γ w h => ex_assign _) rfl) ?_
    exact GSteps.nil
  intro _ w31 hb31 _ _
  refine th_r ?_
  have A32 := A27.keep hb31.out
  have A33 := A28.keep hb31.out
  have A34 := A29.keep hb31.out
  have HB35 := below_then HB30 hb31.out
  exact wp_ret (th_ret (bodyPost_ret (ret1 Tryz.results12 (res_tmp rfl)) rfl ⟨rfl, HB35⟩))

theorem sum_c12 {F : Type} [Rg F] {x1 y1 x2 y2 l : F} (hl : l * (x2 - x1) = y2 - y1) : ((l * l - x1 - x2) + (x1 + x2)) * ((x2 - x1) * (x2 - x1)) = (y2 - y1) * (y2 - y1) := by
  rw [← hl]; clear hl; grind
theorem sum_c22 {F : Type} [Rg F] {x1 y1 x2 y2 x3 l : F} (hl : l * (x2 - x1) = y2 - y1) : ((l * (x1 - x3) - y1) + y1) * (x2 - x1) = (y2 - y1) * (x1 - x3) := by
  rw [← hl]; clear hl; grind
theorem sum_t12 {F : Type} [Rg F] {x y l : F} (hl : l * (2 * y) = 3 * x * x) : ((l * l - x - x) + (x + x)) * ((y + y) * (y + y)) = (3 * (x * x)) * (3 * (x * x)) := by
  have e : 3 * (x * x) = l * (2 * y) := by rw [hl]; clear hl; grind
  rw [e]; clear e hl; grind
theorem sum_t22 {F : Type} [Rg F] {x y x3 l : F} (hl : l * (2 * y) = 3 * x * x) : ((l * (x - x3) - y) + y) * (y + y) = (3 * (x * x)) * (x - x3) := by
  have e : 3 * (x * x) = l * (2 * y) := by rw [hl]; clear hl; grind
  rw [e]; clear e hl; grind
theorem r9Sum_q (P Q R : E2) (h : P.add C2 Q = R) (w : World) : Calls Tryz.prog 12 #[sv [.n 6 (bx0 P.pt), .n 6 (bx1 P.pt), .n 6 (by0 P.pt), .n 6 (by1 P.pt), .b (bi P.pt)], sv [.n 6 (bx0 Q.pt), .n 6 (bx1 Q.pt), .n 6 (by0 Q.pt), .n 6 (by1 Q.pt), .b (bi Q.pt)], sv [.n 6 (bx0 R.pt), .n 6 (bx1 R.pt), .n 6 (by0 R.pt), .n 6 (by1 R.pt), .b (bi R.pt)]] w (Is (.bool true) w) := by
  have hs := EP.sum C2 P Q
  rw [h] at hs
  have hR := r9Right_p R
  obtain ⟨P, hP⟩ := P
  obtain ⟨Q, hQ⟩ := Q
  obtain ⟨R, hR'⟩ := R
  simp only at hs hR ⊢
  clear h hR'
  match P, Q, hP, hQ, hs with
  | .inf, Q, _, _, hs =>
    obtain rfl : R = Q := hs
    exact r9Sum_inf1 R w
  | .aff x y, .inf, _, _, hs =>
    obtain rfl : R = .aff x y := hs
    exact r9Sum_inf2 x y w
  | .aff x1 y1, .aff x2 y2, hP, hQ, hs =>
    rcases hs with ⟨rfl, hy, rfl⟩ | ⟨l, hl, hn, rfl⟩
    · exact r9Sum_opp x1 y1 y2 hy w
    · rcases hl with ⟨hne, hl⟩ | ⟨rfl, rfl, h0, hl⟩
      · have e1 := sum_c12 hl
        have e2 := sum_c22 (x3 := l * l - x1 - x2) hl
        unfold third at hR ⊢
        generalize l * (x1 - (l * l - x1 - x2)) - y1 = y3 at *
        generalize l * l - x1 - x2 = x3 at *
        exact r9Sum_chord x1 y1 x2 y2 x3 y3 hne e1 e2 hR w
      · have e1 := sum_t12 hl
        have e2 := sum_t22 (x3 := l * l - x1 - x1) hl
        unfold third at hR ⊢
        generalize l * (x1 - (l * l - x1 - x1)) - y1 = y3 at *
        generalize l * l - x1 - x1 = x3 at *
        exact r9Sum_tang x1 y1 x3 y3 (fun e => h0 (FdQ.neg_self e)) e1 e2 hR w

end Go.Proofs.YtmhieifjmgcbkaaGreat

/- What is proved here: the law DuoRoots; the bytes of a point of the second curve; the reference writes a point of the second curve; the bytes of a point of the first curve; the reference writes a point of the first curve; the laws of package point: that it is alive; the law PointWrites of package point. -/
import Derived.Test.YtkkmekdhejhapaaGreatComp
import Derived.Test.YtkkmekdhejhapaaGreatPt21
import Derived.Test.YtkkmekdhejhapaaGreatPtFlag
import Derived.Test.YtkkmekdhejhapaaGreatPtRef0
import Derived.Test.YtkkmekdhejhapaaGreatPt11
namespace Go.Proofs.YtkkmekdhejhapaaGreat
section
section
open Go.RowKit
set_option maxRecDepth 20000
set_option maxHeartbeats 4000000
theorem r5High_z (a b : Nat) (w : World) (ha : a < pN) (hb : b < pN) (hz : b = 0) (r : Bool) (hr : r = dHigh a b) :
    Calls Tryz.prog 50 #[nv 6 [a, b]] w (Is (.bool r) w) := by
  go_enter Tryz.func50, Tryz.ntmps50
  refine seq_lit ?_
  refine sn1 (xs := rows 6 [a, b]) (ex_boxn (K := 6) (l := [a, b]) rfl) ?_
  intro w1 N1 hb1
  have HB2 := below_then (brf w) hb1
  refine sva (.bool false) ?_
  refine seq_nil ?_
  refine wp_seq ?_
  refine seq_lit ?_
  refine sv1 (pq w.heap.size 6) (ex_field faFp2_1 rfl) ?_
  refine sv1 (nv 6 [b]) (ex_loadn (K := 6) (k := 1) (j := 1) (l := [a, b]) flFp rfl N1 rfl _ rfl) ?_
  refine sv1 (nv 6 [0]) (ex_zero) ?_
  refine sv1 (.bool true) (ex_eqn (K := 6) (l := [b]) (m := [0]) eqFp rfl rfl rfl rfl rfl (fpB_all1 (Nat.lt_trans hb fpM_lt)) (fpB_all1 zero_B) rfl true (by rw [hz]; rfl)) ?_
  refine seq_nil ?_
  refine wp_cond_true rfl ?_
  refine seq_lit ?_
  refine sv1 (pt w.heap.size) (ex_field faFp2_0 rfl) ?_
  refine sv1 (nv 6 [a]) (ex_loadn (K := 6) (k := 0) (j := 1) (l := [a, b]) flFp rfl N1 rfl _ rfl) ?_
  refine sch HB2 (.bool r) (ex_call (vs := [nv 6 [a]]) rfl Tryz.call48 rfl) (r4High_v a _ ha r (by rw [hr]; unfold dHigh; rw [pCl_of hb, if_pos hz])) ?_
  intro w3 hb3 HB5
  refine sva (.bool r) ?_
  refine seq_nil ?_
  exact wp_ret (bodyPost_ret (ret_tmp Tryz.results50 rfl) rfl ⟨rfl, HB5⟩)
theorem r5High_n (a b : Nat) (w : World) (_ha : a < pN) (hb : b < pN) (hz : b ≠ 0) (r : Bool) (hr : r = dHigh a b) :
    Calls Tryz.prog 50 #[nv 6 [a, b]] w (Is (.bool r) w) := by
  go_enter Tryz.func50, Tryz.ntmps50
  refine seq_lit ?_
  refine sn1 (xs := rows 6 [a, b]) (ex_boxn (K := 6) (l := [a, b]) rfl) ?_
  intro w1 N1 hb1
  have HB2 := below_then (brf w) hb1
  refine sva (.bool false) ?_
  refine seq_nil ?_
  refine wp_seq ?_
  refine seq_lit ?_
  refine sv1 (pq w.heap.size 6) (ex_field faFp2_1 rfl) ?_
  refine sv1 (nv 6 [b]) (ex_loadn (K := 6) (k := 1) (j := 1) (l := [a, b]) flFp rfl N1 rfl _ rfl) ?_
  refine sv1 (nv 6 [0]) (ex_zero) ?_
  refine sv1 (.bool false) (ex_eqn (K := 6) (l := [b]) (m := [0]) eqFp rfl rfl rfl rfl rfl (fpB_all1 (Nat.lt_trans hb fpM_lt)) (fpB_all1 zero_B) rfl false (decide_eq_false (fun hq => hz (by injection hq))).symm) ?_
  refine seq_nil ?_
  refine wp_cond_false rfl ?_
  refine wp_skip (then_n ?_)
  refine seq_lit ?_
  refine sv1 (pq w.heap.size 6) (ex_field faFp2_1 rfl) ?_
  refine sv1 (nv 6 [b]) (ex_loadn (K := 6) (k := 1) (j := 1) (l := [a, b]) flFp rfl N1 rfl _ rfl) ?_
  refine sch HB2 (.bool r) (ex_call (vs := [nv 6 [b]]) rfl Tryz.call48 rfl) (r4High_v b _ hb r (by rw [hr]; unfold dHigh; rw [pCl_of hb, if_neg hz])) ?_
  intro w3 hb3 HB5
  refine sva (.bool r) ?_
  refine seq_nil ?_
  exact wp_ret (bodyPost_ret (ret_tmp Tryz.results50 rfl) rfl ⟨rfl, HB5⟩)
theorem r5High_v (a b : Nat) (w : World) (ha : a < pN) (hb : b < pN) (r : Bool) (hr : r = dHigh a b) : Calls Tryz.prog 50 #[nv 6 [a, b]] w (Is (.bool r) w) := by
  by_cases hz : b = 0
  · exact r5High_z a b w ha hb hz r hr
  · exact r5High_n a b w ha hb hz r hr
end

section
section
open Go.RowKit Cv
set_option maxRecDepth 20000
set_option maxHeartbeats 4000000
def xb2 (P : Pt Zq) : List UInt8 := be 48 (bx1 P) ++ be 48 (bx0 P)
def yb2 (P : Pt Zq) : List UInt8 := be 48 (by1 P) ++ be 48 (by0 P)
def put2L (P : Pt Zq) : List UInt8 := mark (fk true (bi P) (dHigh (by0 P) (by1 P))) (xb2 P)
def wide2L (P : Pt Zq) : List UInt8 := mark (fk false (bi P) false) (xb2 P ++ yb2 P)
theorem pt2put_q (P : E2) (hT : EP.times C2 rN P = EP.zero) (w : World) : Calls Tryz.prog 8 #[sv [.n 6 (bx0 P.pt), .n 6 (bx1 P.pt), .n 6 (by0 P.pt), .n 6 (by1 P.pt), .b (bi P.pt)]] w (Is (.tuple #[str ((put2L P.pt)), .int .i64 0]) w) := pt2put_in P hT w
theorem pt2wide_q (P : E2) (hT : EP.times C2 rN P = EP.zero) (w : World) : Calls Tryz.prog 9 #[sv [.n 6 (bx0 P.pt), .n 6 (bx1 P.pt), .n 6 (by0 P.pt), .n 6 (by1 P.pt), .b (bi P.pt)]] w (Is (.tuple #[str ((wide2L P.pt)), .int .i64 0]) w) := pt2wide_in P hT w
theorem xb2_led (P : Pt Zq) : Led (xb2 P) := led_app (led_be (bx1_P P))
end

section
open Go.RowKit Cv
set_option maxRecDepth 20000 in
set_option maxHeartbeats 4000000 in
theorem r10pair_v (a b : Nat) (ha : a < fpB) (hb : b < fpB) (w : World) :
    Calls Tryz.prog 49 #[nv 6 [a, b]] w (Is (str ((be 48 b ++ be 48 a))) w) := by
  go_enter Tryz.func49, Tryz.ntmps49
  refine wp_seq (region_c 1 (fun _ => 28) (fun _ => 0) (fun _ => 0) (fun _ => segs [.n 6 a, .n 6 b]) (fun _ => segs [.n 6 a, .n 6 b]) [1, 2] (fun γ => [.pointer (some ⟨γ 0, 0, none⟩), str []]) ?_ ?_)
  · refine GSteps.cons (gm_box 0 rfl (fun _ => rfl) (fun _ _ => rfl) (fun γ w h => ex_boxsn (K := 6) (l := [a, b]) rfl) rfl rfl rfl) ?_
    refine stpx (fun _ _ => ex_assign _) ?_
    exact GSteps.nil
  intro γ1 w1 hb1 hB1 _
  refine th_r ?_
  have A2 : SB 28 w1 (γ1 0) [.n 6 a, .n 6 b] := (hB1 0 (by decide)).2
  have le2 := (hB1 0 (by decide)).1
  have HB3 := below_then (Below.refl w.heap.size w) hb1.out
  refine wp_seq (region_0 [3, 4, 5, 6, 7, 8, 9, 2] [.pointer (some ⟨(γ1 0), 6, none⟩), nv 6 [b], str ((be 48 b)), .pointer (some ⟨(γ1 0), 0, none⟩), nv 6 [a], str ((be 48 a)), str (((be 48 b) ++ (be 48 a))), str (((be 48 b) ++ (be 48 a)))] ?_ ?_)
  · refine stpx (fun _ _ => ex_field faFp2_1 rfl) ?_
    refine stpv (fun γ w h => ex_loadsn (K := 6) 1 1 (m := [b]) flFp rfl rfl (A2.keep h.out) rfl rfl) ?_
    refine stpc (str ((be 48 b))) (fun γ w => ex_call (vs := [nv 6 [b]]) rfl Tryz.call45 rfl) (fun w h => r4Put_l b hb _) ?_
    refine stpx (fun _ _ => ex_field faFp2_0 rfl) ?_
    refine stpv (fun γ w h => ex_loadsn (K := 6) 0 1 (m := [a]) flFp rfl rfl (A2.keep h.out) rfl rfl) ?_
    refine stpc (str ((be 48 a))) (fun γ w => ex_call (vs := [nv 6 [a]]) rfl Tryz.call45 rfl) (fun w h => r4Put_l a ha _) ?_
    refine stpx (fun _ _ => ex_catL (a := (be 48 b)) (b := (be 48 a)) rfl rfl (by simp only [length_be]; omega)) ?_
    refine stpx (fun _ _ => ex_assign _) ?_
    exact GSteps.nil
  intro w4 hb4
  refine th_r ?_
  have A5 := A2.keep hb4.out
  have HB6 := below_then HB3 hb4.out
  exact wp_ret (bodyPost_ret (ret1 Tryz.results49 (res_tmp rfl)) rfl ⟨rfl, HB6⟩)
set_option maxRecDepth 20000 in
set_option maxHeartbeats 4000000 in
theorem r10Put2_truem (P : E2) (w : World) :
    Calls Tryz.prog 16 #[sv [.n 6 (bx0 P.pt), .n 6 (bx1 P.pt), .n 6 (by0 P.pt), .n 6 (by1 P.pt), .b (bi P.pt)], .bool true] w (Is (str ((mark (fk true (bi P.pt) (true && (dHigh (by0 P.pt) (by1 P.pt)))) ((be 48 (bx1 P.pt)) ++ (be 48 (bx0 P.pt)))))) w) := by
  go_enter Tryz.func16, Tryz.ntmps16
  refine wp_seq (region_c 1 (fun _ => 30) (fun _ => 0) (fun _ => 0) (fun _ => segs [.n 6 (bx0 P.pt), .n 6 (bx1 P.pt), .n 6 (by0 P.pt), .n 6 (by1 P.pt), .b (bi P.pt)]) (fun _ => segs [.n 6 (bx0 P.pt), .n 6 (bx1 P.pt), .n 6 (by0 P.pt), .n 6 (by1 P.pt), .b (bi P.pt)]) [2, 4] (fun γ => [.pointer (some ⟨γ 0, 0, none⟩), str []]) ?_ ?_)
  · refine GSteps.cons (gm_box 0 rfl (fun _ => rfl) (fun _ _ => rfl) (fun γ w h => ex_boxs (l := [.n 6 (bx0 P.pt), .n 6 (bx1 P.pt), .n 6 (by0 P.pt), .n 6 (by1 P.pt), .b (bi P.pt)]) rfl) rfl rfl rfl) ?_
    refine stpx (fun _ _ => ex_assign _) ?_
    exact GSteps.nil
  intro γ1 w1 hb1 hB1 _
  refine th_r ?_
  have A2 : SB 30 w1 (γ1 0) [.n 6 (bx0 P.pt), .n 6 (bx1 P.pt), .n 6 (by0 P.pt), .n 6 (by1 P.pt), .b (bi P.pt)] := (hB1 0 (by decide)).2
  have le2 := (hB1 0 (by decide)).1
  have HB3 := below_then (Below.refl w.heap.size w) hb1.out
  refine wp_seq (region_0 [6, 7, 8, 5] [.pointer (some ⟨(γ1 0), 0, none⟩), nv 6 [bx0 P.pt, bx1 P.pt], str (((be 48 (bx1 P.pt)) ++ (be 48 (bx0 P.pt)))), str (((be 48 (bx1 P.pt)) ++ (be 48 (bx0 P.pt))))] ?_ ?_)
  · refine stpx (fun _ _ => ex_field faG2_0 rfl) ?_
    refine stpv (fun γ w h => ex_loadsn (K := 6) 0 2 (m := [bx0 P.pt, bx1 P.pt]) flFp2 rfl rfl (A2.keep h.out) rfl rfl) ?_
    refine stpc (str (((be 48 (bx1 P.pt)) ++ (be 48 (bx0 P.pt))))) (fun γ w => ex_call (vs := [nv 6 [bx0 P.pt, bx1 P.pt]]) rfl Tryz.call49 rfl) (fun w h => r10pair_v _ _ (bx0_B P.pt) (bx1_B P.pt) _) ?_
    refine stpx (fun _ _ => ex_assign _) ?_
    exact GSteps.nil
  intro w4 hb4
  refine th_r ?_
  have A5 := A2.keep hb4.out
  have HB6 := below_then HB3 hb4.out
  refine wp_seq ?_
  refine wp_seq (region_0 [9, 10] [.bool true, .bool false] ?_ ?_)
  · refine stpx (fun _ _ => ex_move _) ?_
    refine stpx (fun _ _ => ex_not (r := true) rfl) ?_
    exact GSteps.nil
  intro w7 hb7
  refine th_r ?_
  have A8 := A5.keep hb7.out
  have HB9 := below_then HB6 hb7.out
  refine wp_cond_false rfl ?_
  refine wp_skip ?_
  refine th_r ?_
  refine wp_seq (region_0 [16, 17, 18, 19, 20, 21, 22, 23, 24, 4] [str (((be 48 (bx1 P.pt)) ++ (be 48 (bx0 P.pt)))), .pointer (some ⟨(γ1 0), 24, none⟩), .bool (bi P.pt), .pointer (some ⟨(γ1 0), 12, none⟩), nv 6 [by0 P.pt, by1 P.pt], .bool ((dHigh (by0 P.pt) (by1 P.pt))), .bool true, .int .u8 ((32 * (fk true (bi P.pt) (true && (dHigh (by0 P.pt) (by1 P.pt)))) : Nat) : Int), str ((mark (fk true (bi P.pt) (true && (dHigh (by0 P.pt) (by1 P.pt)))) ((be 48 (bx1 P.pt)) ++ (be 48 (bx0 P.pt))))), str ((mark (fk true (bi P.pt) (true && (dHigh (by0 P.pt) (by1 P.pt)))) ((be 48 (bx1 P.pt)) ++ (be 48 (bx0 P.pt)))))] ?_ ?_)
  · refine stpx (fun _ _ => ex_move _) ?_
    refine stpx (fun _ _ => ex_field faG2_2 rfl) ?_
    refine stpv (fun γ w h => ex_load1 4 (s := .b (bi P.pt)) (v := .bool (bi P.pt)) sgBool rfl (A8.keep h.out) rfl rfl rfl) ?_
    refine stpx (fun _ _ => ex_field faG2_1 rfl) ?_
    refine stpv (fun γ w h => ex_loadsn (K := 6) 2 2 (m := [by0 P.pt, by1 P.pt]) flFp2 rfl rfl (A8.keep h.out) rfl rfl) ?_
    refine stpc (.bool ((dHigh (by0 P.pt) (by1 P.pt)))) (fun γ w => ex_call (vs := [nv 6 [by0 P.pt, by1 P.pt]]) rfl Tryz.call50 rfl) (fun w h => r5High_v _ _ _ (by0_P P.pt) (by1_P P.pt) _ rfl) ?_
    refine stpx (fun _ _ => ex_move _) ?_
    refine stpc (.int .u8 ((32 * (fk true (bi P.pt) (true && (dHigh (by0 P.pt) (by1 P.pt)))) : Nat) : Int)) (fun γ w => ex_call (vs := [.bool (bi P.pt), .bool ((dHigh (by0 P.pt) (by1 P.pt))), .bool true]) rfl Tryz.call47 rfl) (fun w h => r10Flags_q _ _ _ _) ?_
    refine stpc (str ((mark (fk true (bi P.pt) (true && (dHigh (by0 P.pt) (by1 P.pt)))) ((be 48 (bx1 P.pt)) ++ (be 48 (bx0 P.pt)))))) (fun γ w => ex_call (vs := [str (((be 48 (bx1 P.pt)) ++ (be 48 (bx0 P.pt)))), .int .u8 ((32 * (fk true (bi P.pt) (true && (dHigh (by0 P.pt) (by1 P.pt)))) : Nat) : Int)]) rfl Tryz.call46 rfl) (fun w h => r10with_q _ (xb2_led P.pt) _ (fk_lt _ _ _) _) ?_
    refine stpx (fun _ _ => ex_assign _) ?_
    exact GSteps.nil
  intro w10 hb10
  refine th_r ?_
  have A11 := A8.keep hb10.out
  have HB12 := below_then HB9 hb10.out
  exact wp_ret (bodyPost_ret (ret1 Tryz.results16 (res_tmp rfl)) rfl ⟨rfl, HB12⟩)
theorem r10Put2_true (P : E2) (w : World) : Calls Tryz.prog 16 #[sv [.n 6 (bx0 P.pt), .n 6 (bx1 P.pt), .n 6 (by0 P.pt), .n 6 (by1 P.pt), .b (bi P.pt)], .bool true] w (Is (str ((put2L P.pt))) w) := r10Put2_truem P w
set_option maxRecDepth 20000 in
set_option maxHeartbeats 4000000 in
theorem r10Put2_falsem (P : E2) (w : World) :
    Calls Tryz.prog 16 #[sv [.n 6 (bx0 P.pt), .n 6 (bx1 P.pt), .n 6 (by0 P.pt), .n 6 (by1 P.pt), .b (bi P.pt)], .bool false] w (Is (str ((mark (fk false (bi P.pt) (false && (dHigh (by0 P.pt) (by1 P.pt)))) (((be 48 (bx1 P.pt)) ++ (be 48 (bx0 P.pt))) ++ ((be 48 (by1 P.pt)) ++ (be 48 (by0 P.pt))))))) w) := by
  go_enter Tryz.func16, Tryz.ntmps16
  refine wp_seq (region_c 1 (fun _ => 30) (fun _ => 0) (fun _ => 0) (fun _ => segs [.n 6 (bx0 P.pt), .n 6 (bx1 P.pt), .n 6 (by0 P.pt), .n 6 (by1 P.pt), .b (bi P.pt)]) (fun _ => segs [.n 6 (bx0 P.pt), .n 6 (bx1 P.pt), .n 6 (by0 P.pt), .n 6 (by1 P.pt), .b (bi P.pt)]) [2, 4] (fun γ => [.pointer (some ⟨γ 0, 0, none⟩), str []]) ?_ ?_)
  · refine GSteps.cons (gm_box 0 rfl (fun _ => rfl) (fun _ _ => rfl) (fun γ w h => ex_boxs (l := [.n 6 (bx0 P.pt), .n 6 (bx1 P.pt), .n 6 (by0 P.pt), .n 6 (by1 P.pt), .b (bi P.pt)]) rfl) rfl rfl rfl) ?_
    refine stpx (fun _ _ => ex_assign _) ?_
    exact GSteps.nil
  intro γ1 w1 hb1 hB1 _
  refine th_r ?_
  have A2 : SB 30 w1 (γ1 0) [.n 6 (bx0 P.pt), .n 6 (bx1 P.pt), .n 6 (by0 P.pt), .n 6 (by1 P.pt), .b (bi P.pt)] := (hB1 0 (by decide)).2
  have le2 := (hB1 0 (by decide)).1
  have HB3 := below_then (Below.refl w.heap.size w) hb1.out
  refine wp_seq (region_0 [6, 7, 8, 5] [.pointer (some ⟨(γ1 0), 0, none⟩), nv 6 [bx0 P.pt, bx1 P.pt], str (((be 48 (bx1 P.pt)) ++ (be 48 (bx0 P.pt)))), str (((be 48 (bx1 P.pt)) ++ (be 48 (bx0 P.pt))))] ?_ ?_)
  · refine stpx (fun _ _ => ex_field faG2_0 rfl) ?_
    refine stpv (fun γ w h => ex_loadsn (K := 6) 0 2 (m := [bx0 P.pt, bx1 P.pt]) flFp2 rfl rfl (A2.keep h.out) rfl rfl) ?_
    refine stpc (str (((be 48 (bx1 P.pt)) ++ (be 48 (bx0 P.pt))))) (fun γ w => ex_call (vs := [nv 6 [bx0 P.pt, bx1 P.pt]]) rfl Tryz.call49 rfl) (fun w h => r10pair_v _ _ (bx0_B P.pt) (bx1_B P.pt) _) ?_
    refine stpx (fun _ _ => ex_assign _) ?_
    exact GSteps.nil
  intro w4 hb4
  refine th_r ?_
  have A5 := A2.keep hb4.out
  have HB6 := below_then HB3 hb4.out
  refine wp_seq ?_
  refine wp_seq (region_0 [9, 10] [.bool false, .bool true] ?_ ?_)
  · refine stpx (fun _ _ => ex_move _) ?_
    refine stpx (fun _ _ => ex_not (r := false) rfl) ?_
    exact GSteps.nil
  intro w7 hb7
  refine th_r ?_
  have A8 := A5.keep hb7.out
  have HB9 := below_then HB6 hb7.out
  refine wp_cond_true rfl ?_
  refine wp_region_lit ?_
  refine sv1 (str (((be 48 (bx1 P.pt)) ++ (be 48 (bx0 P.pt))))) (ex_move _) ?_
  refine sv1 (.pointer (some ⟨(γ1 0), 12, none⟩)) (ex_field faG2_1 rfl) ?_
  refine sv1 (nv 6 [by0 P.pt, by1 P.pt]) (ex_loadsn (K := 6) 2 2 (m := [by0 P.pt, by1 P.pt]) flFp2 rfl rfl A8 rfl rfl) ?_
  refine sc1 (str (((be 48 (by1 P.pt)) ++ (be 48 (by0 P.pt))))) (ex_call (vs := [nv 6 [by0 P.pt, by1 P.pt]]) rfl Tryz.call49 rfl) (r10pair_v _ _ (by0_B P.pt) (by1_B P.pt) _) ?_
  intro w13 hb13
  have A14 := A8.keep hb13
  have HB15 := below_then HB9 hb13
  refine sv1 (str ((((be 48 (bx1 P.pt)) ++ (be 48 (bx0 P.pt))) ++ ((be 48 (by1 P.pt)) ++ (be 48 (by0 P.pt)))))) (ex_catL (a := ((be 48 (bx1 P.pt)) ++ (be 48 (bx0 P.pt)))) (b := ((be 48 (by1 P.pt)) ++ (be 48 (by0 P.pt)))) rfl rfl (by simp only [List.length_append, length_be]; omega)) ?_
  refine sv1 (str ((((be 48 (bx1 P.pt)) ++ (be 48 (bx0 P.pt))) ++ ((be 48 (by1 P.pt)) ++ (be 48 (by0 P.pt)))))) (ex_assign _) ?_
  refine wpList_nil ?_
  refine th_r ?_
  refine wp_seq (region_0 [16, 17, 18, 19, 20, 21, 22, 23, 24, 4] [str ((((be 48 (bx1 P.pt)) ++ (be 48 (bx0 P.pt))) ++ ((be 48 (by1 P.pt)) ++ (be 48 (by0 P.pt))))), .pointer (some ⟨(γ1 0), 24, none⟩), .bool (bi P.pt), .pointer (some ⟨(γ1 0), 12, none⟩), nv 6 [by0 P.pt, by1 P.pt], .bool ((dHigh (by0 P.pt) (by1 P.pt))), .bool false, .int .u8 ((32 * (fk false (bi P.pt) (false && (dHigh (by0 P.pt) (by1 P.pt)))) : Nat) : Int), str ((mark (fk false (bi P.pt) (false && (dHigh (by0 P.pt) (by1 P.pt)))) (((be 48 (bx1 P.pt)) ++ (be 48 (bx0 P.pt))) ++ ((be 48 (by1 P.pt)) ++ (be 48 (by0 P.pt)))))), str ((mark (fk false (bi P.pt) (false && (dHigh (by0 P.pt) (by1 P.pt)))) (((be 48 (bx1 P.pt)) ++ (be 48 (bx0 P.pt))) ++ ((be 48 (by1 P.pt)) ++ (be 48 (by0 P.pt))))))] ?_ ?_)
  · refine stpx (fun _ _ => ex_move _) ?_
    refine stpx (fun _ _ => ex_field faG2_2 rfl) ?_
    refine stpv (fun γ w h => ex_load1 4 (s := .b (bi P.pt)) (v := .bool (bi P.pt)) sgBool rfl (A14.keep h.out) rfl rfl rfl) ?_
    refine stpx (fun _ _ => ex_field faG2_1 rfl) ?_
    refine stpv (fun γ w h => ex_loadsn (K := 6) 2 2 (m := [by0 P.pt, by1 P.pt]) flFp2 rfl rfl (A14.keep h.out) rfl rfl) ?_
    refine stpc (.bool ((dHigh (by0 P.pt) (by1 P.pt)))) (fun γ w => ex_call (vs := [nv 6 [by0 P.pt, by1 P.pt]]) rfl Tryz.call50 rfl) (fun w h => r5High_v _ _ _ (by0_P P.pt) (by1_P P.pt) _ rfl) ?_
    refine stpx (fun _ _ => ex_move _) ?_
    refine stpc (.int .u8 ((32 * (fk false (bi P.pt) (false && (dHigh (by0 P.pt) (by1 P.pt)))) : Nat) : Int)) (fun γ w => ex_call (vs := [.bool (bi P.pt), .bool ((dHigh (by0 P.pt) (by1 P.pt))), .bool false]) rfl Tryz.call47 rfl) (fun w h => r10Flags_q _ _ _ _) ?_
    refine stpc (str ((mark (fk false (bi P.pt) (false && (dHigh (by0 P.pt) (by1 P.pt)))) (((be 48 (bx1 P.pt)) ++ (be 48 (bx0 P.pt))) ++ ((be 48 (by1 P.pt)) ++ (be 48 (by0 P.pt))))))) (fun γ w => ex_call (vs := [str ((((be 48 (bx1 P.pt)) ++ (be 48 (bx0 P.pt))) ++ ((be 48 (by1 P.pt)) ++ (be 48 (by0 P.pt))))), .int .u8 ((32 * (fk false (bi P.pt) (false && (dHigh (by0 P.pt) (by1 P.pt)))) : Nat) : Int)]) rfl Tryz.call46 rfl) (fun w h => r10with_q _ (led_app (xb2_led P.pt)) _ (fk_lt _ _ _) _) ?_
    refine stpx (fun _ _ => ex_assign _) ?_
    exact GSteps.nil
  intro w18 hb18
  refine th_r ?_
  have A19 := A14.keep hb18.out
  have HB20 := below_then HB15 hb18.out
  exact wp_ret (bodyPost_ret (ret1 Tryz.results16 (res_tmp rfl)) rfl ⟨rfl, HB20⟩)
theorem r10Put2_false (P : E2) (w : World) : Calls Tryz.prog 16 #[sv [.n 6 (bx0 P.pt), .n 6 (bx1 P.pt), .n 6 (by0 P.pt), .n 6 (by1 P.pt), .b (bi P.pt)], .bool false] w (Is (str ((wide2L P.pt))) w) := r10Put2_falsem P w
end
end
end

section
section
section
open Go.RowKit Cv
set_option maxRecDepth 20000
set_option maxHeartbeats 4000000
def xb1 (P : Pt Zp) : List UInt8 := be 48 (ax P)
def yb1 (P : Pt Zp) : List UInt8 := be 48 (ay P)
def put1L (P : Pt Zp) : List UInt8 := mark (fk true (ai P) (pHigh (ay P))) (xb1 P)
def wide1L (P : Pt Zp) : List UInt8 := mark (fk false (ai P) false) (xb1 P ++ yb1 P)
theorem pt1put_q (P : E1) (hT : EP.times C1 rN P = EP.zero) (w : World) : Calls Tryz.prog 6 #[sv [.n 6 (ax P.pt), .n 6 (ay P.pt), .b (ai P.pt)]] w (Is (.tuple #[str ((put1L P.pt)), .int .i64 0]) w) := pt1put_in P hT w
theorem pt1wide_q (P : E1) (hT : EP.times C1 rN P = EP.zero) (w : World) : Calls Tryz.prog 7 #[sv [.n 6 (ax P.pt), .n 6 (ay P.pt), .b (ai P.pt)]] w (Is (.tuple #[str ((wide1L P.pt)), .int .i64 0]) w) := pt1wide_in P hT w
theorem xb1_len (P : Pt Zp) : (xb1 P).length = 48 := by unfold xb1; simp only [length_be]
theorem put1_len (P : Pt Zp) : (put1L P).length = 48 := by unfold put1L; rw [length_mark, xb1_len]
theorem xb1_led (P : Pt Zp) : Led (xb1 P) := led_be (ax_P P)
end

section
open Go.RowKit Cv
set_option maxRecDepth 20000 in
set_option maxHeartbeats 4000000 in
theorem r10Put1_truem (P : E1) (w : World) :
    Calls Tryz.prog 15 #[sv [.n 6 (ax P.pt), .n 6 (ay P.pt), .b (ai P.pt)], .bool true] w (Is (str ((mark (fk true (ai P.pt) (true && (pHigh (ay P.pt)))) (be 48 (ax P.pt))))) w) := by
  go_enter Tryz.func15, Tryz.ntmps15
  refine wp_seq (region_c 1 (fun _ => 26) (fun _ => 0) (fun _ => 0) (fun _ => segs [.n 6 (ax P.pt), .n 6 (ay P.pt), .b (ai P.pt)]) (fun _ => segs [.n 6 (ax P.pt), .n 6 (ay P.pt), .b (ai P.pt)]) [2, 4] (fun γ => [.pointer (some ⟨γ 0, 0, none⟩), str []]) ?_ ?_)
  · refine GSteps.cons (gm_box 0 rfl (fun _ => rfl) (fun _ _ => rfl) (fun γ w h => ex_boxs (l := [.n 6 (ax P.pt), .n 6 (ay P.pt), .b (ai P.pt)]) rfl) rfl rfl rfl) ?_
    refine stpx (fun _ _ => ex_assign _) ?_
    exact GSteps.nil
  intro γ1 w1 hb1 hB1 _
  refine th_r ?_
  have A2 : SB 26 w1 (γ1 0) [.n 6 (ax P.pt), .n 6 (ay P.pt), .b (ai P.pt)] := (hB1 0 (by decide)).2
  have le2 := (hB1 0 (by decide)).1
  have HB3 := below_then (Below.refl w.heap.size w) hb1.out
  refine wp_seq (region_0 [6, 7, 8, 5] [.pointer (some ⟨(γ1 0), 0, none⟩), nv 6 [ax P.pt], str ((be 48 (ax P.pt))), str ((be 48 (ax P.pt)))] ?_ ?_)
  · refine stpx (fun _ _ => ex_field faG1_0 rfl) ?_
    refine stpv (fun γ w h => ex_loadsn (K := 6) 0 1 (m := [ax P.pt]) flFp rfl rfl (A2.keep h.out) rfl rfl) ?_
    refine stpc (str ((be 48 (ax P.pt)))) (fun γ w => ex_call (vs := [nv 6 [ax P.pt]]) rfl Tryz.call45 rfl) (fun w h => r4Put_l _ (ax_B P.pt) _) ?_
    refine stpx (fun _ _ => ex_assign _) ?_
    exact GSteps.nil
  intro w4 hb4
  refine th_r ?_
  have A5 := A2.keep hb4.out
  have HB6 := below_then HB3 hb4.out
  refine wp_seq ?_
  refine wp_seq (region_0 [9, 10] [.bool true, .bool false] ?_ ?_)
  · refine stpx (fun _ _ => ex_move _) ?_
    refine stpx (fun _ _ => ex_not (r := true) rfl) ?_
    exact GSteps.nil
  intro w7 hb7
  refine th_r ?_
  have A8 := A5.keep hb7.out
  have HB9 := below_then HB6 hb7.out
  refine wp_cond_false rfl ?_
  refine wp_skip ?_
  refine th_r ?_
  refine wp_seq (region_0 [16, 17, 18, 19, 20, 21, 22, 23, 24, 4] [str ((be 48 (ax P.pt))), .pointer (some ⟨(γ1 0), 12, none⟩), .bool (ai P.pt), .pointer (some ⟨(γ1 0), 6, none⟩), nv 6 [ay P.pt], .bool ((pHigh (ay P.pt))), .bool true, .int .u8 ((32 * (fk true (ai P.pt) (true && (pHigh (ay P.pt)))) : Nat) : Int), str ((mark (fk true (ai P.pt) (true && (pHigh (ay P.pt)))) (be 48 (ax P.pt)))), str ((mark (fk true (ai P.pt) (true && (pHigh (ay P.pt)))) (be 48 (ax P.pt))))] ?_ ?_)
  · refine stpx (fun _ _ => ex_move _) ?_
    refine stpx (fun _ _ => ex_field faG1_2 rfl) ?_
    refine stpv (fun γ w h => ex_load1 2 (s := .b (ai P.pt)) (v := .bool (ai P.pt)) sgBool rfl (A8.keep h.out) rfl rfl rfl) ?_
    refine stpx (fun _ _ => ex_field faG1_1 rfl) ?_
    refine stpv (fun γ w h => ex_loadsn (K := 6) 1 1 (m := [ay P.pt]) flFp rfl rfl (A8.keep h.out) rfl rfl) ?_
    refine stpc (.bool ((pHigh (ay P.pt)))) (fun γ w => ex_call (vs := [nv 6 [ay P.pt]]) rfl Tryz.call48 rfl) (fun w h => r4High_v _ _ (ay_P P.pt) _ rfl) ?_
    refine stpx (fun _ _ => ex_move _) ?_
    refine stpc (.int .u8 ((32 * (fk true (ai P.pt) (true && (pHigh (ay P.pt)))) : Nat) : Int)) (fun γ w => ex_call (vs := [.bool (ai P.pt), .bool ((pHigh (ay P.pt))), .bool true]) rfl Tryz.call47 rfl) (fun w h => r10Flags_q _ _ _ _) ?_
    refine stpc (str ((mark (fk true (ai P.pt) (true && (pHigh (ay P.pt)))) (be 48 (ax P.pt))))) (fun γ w => ex_call (vs := [str ((be 48 (ax P.pt))), .int .u8 ((32 * (fk true (ai P.pt) (true && (pHigh (ay P.pt)))) : Nat) : Int)]) rfl Tryz.call46 rfl) (fun w h => r10with_q _ (xb1_led P.pt) _ (fk_lt _ _ _) _) ?_
    refine stpx (fun _ _ => ex_assign _) ?_
    exact GSteps.nil
  intro w10 hb10
  refine th_r ?_
  have A11 := A8.keep hb10.out
  have HB12 := below_then HB9 hb10.out
  exact wp_ret (bodyPost_ret (ret1 Tryz.results15 (res_tmp rfl)) rfl ⟨rfl, HB12⟩)
theorem r10Put1_true (P : E1) (w : World) : Calls Tryz.prog 15 #[sv [.n 6 (ax P.pt), .n 6 (ay P.pt), .b (ai P.pt)], .bool true] w (Is (str ((put1L P.pt))) w) := r10Put1_truem P w
set_option maxRecDepth 20000 in
set_option maxHeartbeats 4000000 in
theorem r10Put1_falsem (P : E1) (w : World) :
    Calls Tryz.prog 15 #[sv [.n 6 (ax P.pt), .n 6 (ay P.pt), .b (ai P.pt)], .bool false] w (Is (str ((mark (fk false (ai P.pt) (false && (pHigh (ay P.pt)))) ((be 48 (ax P.pt)) ++ (be 48 (ay P.pt)))))) w) := by
  go_enter Tryz.func15, Tryz.ntmps15
  refine wp_seq (region_c 1 (fun _ => 26) (fun _ => 0) (fun _ => 0) (fun _ => segs [.n 6 (ax P.pt), .n 6 (ay P.pt), .b (ai P.pt)]) (fun _ => segs [.n 6 (ax P.pt), .n 6 (ay P.pt), .b (ai P.pt)]) [2, 4] (fun γ => [.pointer (some ⟨γ 0, 0, none⟩), str []]) ?_ ?_)
  · refine GSteps.cons (gm_box 0 rfl (fun _ => rfl) (fun _ _ => rfl) (fun γ w h => ex_boxs (l := [.n 6 (ax P.pt), .n 6 (ay P.pt), .b (ai P.pt)]) rfl) rfl rfl rfl) ?_
    refine stpx (fun _ _ => ex_assign _) ?_
    exact GSteps.nil
  intro γ1 w1 hb1 hB1 _
  refine th_r ?_
  have A2 : SB 26 w1 (γ1 0) [.n 6 (ax P.pt), .n 6 (ay P.pt), .b (ai P.pt)] := (hB1 0 (by decide)).2
  have le2 := (hB1 0 (by decide)).1
  have HB3 := below_then (Below.refl w.heap.size w) hb1.out
  refine wp_seq (region_0 [6, 7, 8, 5] [.pointer (some ⟨(γ1 0), 0, none⟩), nv 6 [ax P.pt], str ((be 48 (ax P.pt))), str ((be 48 (ax P.pt)))] ?_ ?_)
  · refine stpx (fun _ _ => ex_field faG1_0 rfl) ?_
    refine stpv (fun γ w h => ex_loadsn (K := 6) 0 1 (m := [ax P.pt]) flFp rfl rfl (A2.keep h.out) rfl rfl) ?_
    refine stpc (str ((be 48 (ax P.pt)))) (fun γ w => ex_call (vs := [nv 6 [ax P.pt]]) rfl Tryz.call45 rfl) (fun w h => r4Put_l _ (ax_B P.pt) _) ?_
    refine stpx (fun _ _ => ex_assign _) ?_
    exact GSteps.nil
  intro w4 hb4
  refine th_r ?_
  have A5 := A2.keep hb4.out
  have HB6 := below_then HB3 hb4.out
  refine wp_seq ?_
  refine wp_seq (region_0 [9, 10] [.bool false, .bool true] ?_ ?_)
  · refine stpx (fun _ _ => ex_move _) ?_
    refine stpx (fun _ _ => ex_not (r := false) rfl) ?_
    exact GSteps.nil
  intro w7 hb7
  refine th_r ?_
  have A8 := A5.keep hb7.out
  have HB9 := below_then HB6 hb7.out
  refine wp_cond_true rfl ?_
  refine wp_region_lit ?_
  refine sv1 (str ((be 48 (ax P.pt)))) (ex_move _) ?_
  refine sv1 (.pointer (some ⟨(γ1 0), 6, none⟩)) (ex_field faG1_1 rfl) ?_
  refine sv1 (nv 6 [ay P.pt]) (ex_loadsn (K := 6) 1 1 (m := [ay P.pt]) flFp rfl rfl A8 rfl rfl) ?_
  refine sc1 (str ((be 48 (ay P.pt)))) (ex_call (vs := [nv 6 [ay P.pt]]) rfl Tryz.call45 rfl) (r4Put_l _ (ay_B P.pt) _) ?_
  intro w13 hb13
  have A14 := A8.keep hb13
  have HB15 := below_then HB9 hb13
  refine sv1 (str (((be 48 (ax P.pt)) ++ (be 48 (ay P.pt))))) (ex_catL (a := (be 48 (ax P.pt))) (b := (be 48 (ay P.pt))) rfl rfl (by simp only [List.length_append, length_be]; omega)) ?_
  refine sv1 (str (((be 48 (ax P.pt)) ++ (be 48 (ay P.pt))))) (ex_assign _) ?_
  refine wpList_nil ?_
  refine th_r ?_
  refine wp_seq (region_0 [16, 17, 18, 19, 20, 21, 22, 23, 24, 4] [str (((be 48 (ax P.pt)) ++ (be 48 (ay P.pt)))), .pointer (some ⟨(γ1 0), 12, none⟩), .bool (ai P.pt), .pointer (some ⟨(γ1 0), 6, none⟩), nv 6 [ay P.pt], .bool ((pHigh (ay P.pt))), .bool false, .int .u8 ((32 * (fk false (ai P.pt) (false && (pHigh (ay P.pt)))) : Nat) : Int), str ((mark (fk false (ai P.pt) (false && (pHigh (ay P.pt)))) ((be 48 (ax P.pt)) ++ (be 48 (ay P.pt))))), str ((mark (fk false (ai P.pt) (false && (pHigh (ay P.pt)))) ((be 48 (ax P.pt)) ++ (be 48 (ay P.pt)))))] ?_ ?_)
  · refine stpx (fun _ _ => ex_move _) ?_
    refine stpx (fun _ _ => ex_field faG1_2 rfl) ?_
    refine stpv (fun γ w h => ex_load1 2 (s := .b (ai P.pt)) (v := .bool (ai P.pt)) sgBool rfl (A14.keep h.out) rfl rfl rfl) ?_
    refine stpx (fun _ _ => ex_field faG1_1 rfl) ?_
    refine stpv (fun γ w h => ex_loadsn (K := 6) 1 1 (m := [ay P.pt]) flFp rfl rfl (A14.keep h.out) rfl rfl) ?_
    refine stpc (.bool ((pHigh (ay P.pt)))) (fun γ w => ex_call (vs := [nv 6 [ay P.pt]]) rfl Tryz.call48 rfl) (fun w h => r4High_v _ _ (ay_P P.pt) _ rfl) ?_
    refine stpx (fun _ _ => ex_move _) ?_
    refine stpc (.int .u8 ((32 * (fk false (ai P.pt) (false && (pHigh (ay P.pt)))) : Nat) : Int)) (fun γ w => ex_call (vs := [.bool (ai P.pt), .bool ((pHigh (ay P.pt))), .bool false]) rfl Tryz.call47 rfl) (fun w h => r10Flags_q _ _ _ _) ?_
    refine stpc (str ((mark (fk false (ai P.pt) (false && (pHigh (ay P.pt)))) ((be 48 (ax P.pt)) ++ (be 48 (ay P.pt)))))) (fun γ w => ex_call (vs := [str (((be 48 (ax P.pt)) ++ (be 48 (ay P.pt)))), .int .u8 ((32 * (fk false (ai P.pt) (false && (pHigh (ay P.pt)))) : Nat) : Int)]) rfl Tryz.call46 rfl) (fun w h => r10with_q _ (led_app (xb1_led P.pt)) _ (fk_lt _ _ _) _) ?_
    refine stpx (fun _ _ => ex_assign _) ?_
    exact GSteps.nil
  intro w18 hb18
  refine th_r ?_
  have A19 := A14.keep hb18.out
  have HB20 := below_then HB15 hb18.out
  exact wp_ret (bodyPost_ret (ret1 Tryz.results15 (res_tmp rfl)) rfl ⟨rfl, HB20⟩)
theorem r10Put1_false (P : E1) (w : World) : Calls Tryz.prog 15 #[sv [.n 6 (ax P.pt), .n 6 (ay P.pt), .b (ai P.pt)], .bool false] w (Is (str ((wide1L P.pt))) w) := r10Put1_falsem P w
end
end

section
section
open Go.RowKit Cv
set_option maxRecDepth 20000
set_option maxHeartbeats 4000000
theorem ptalive_m (R : List UInt8) (hR : R.length = 48) (hP : CI 6 #[sv [.n 6 0, .n 6 0, .b true]] (.tuple #[str R, .int .i64 0])) (hg1 : CI 11 #[sv [.n 6 g1x, .n 6 g1y, .b false]] (.bool true)) (hg2 : CI 13 #[sv [.n 6 g2xa, .n 6 g2xb, .n 6 g2ya, .n 6 g2yb, .b false]] (.bool true)) : CI 14 #[] (.bool true) := fun w => by
  go_enter Tryz.func14, Tryz.ntmps14
  refine rh0 (brf w) [0] [.bool false] ?_ ?_
  · exact stpa .nil
  intro w1 hb1 HB2
  refine rh0 HB2 [4, 5, 3, 6, 7, 1, 2] [sv [.n 6 0, .n 6 0, .b true], .tuple #[str R, .int .i64 0], .tuple #[str R, .int .i64 0], str R, .int .i64 0, str R, .int .i64 0] ?_ ?_
  · refine stpk Tryz.call42 (fun w h => oneZero_v _) ?_
    refine stpk Tryz.call6 (fun w h => hP _) ?_
    refine stpm ?_
    refine stpx (fun _ _ => ex_extract rfl rfl) ?_
    refine stpx (fun _ _ => ex_extract rfl rfl) ?_
    refine stpa ?_
    exact stpa .nil
  intro w3 hb3 HB4
  refine rh0 HB4 [8, 9, 10, 11, 12, 13, 14, 15, 16, 17, 18, 19, 20, 21, 22, 0] [.int .i64 0, .bool true, .bool true, str R, .int .i64 48, .bool true, .bool true, .bool true, sv [.n 6 g1x, .n 6 g1y, .b false], .bool true, .bool true, .bool true, sv [.n 6 g2xa, .n 6 g2xb, .n 6 g2ya, .n 6 g2yb, .b false], .bool true, .bool true, .bool true] ?_ ?_
  · refine stpm ?_
    refine stpx (fun _ _ => ex_eqi rfl rfl _ rfl) ?_
    refine stpm ?_
    refine stpm ?_
    refine stpx (fun _ _ => ex_lenL (l := R) (n := 48) rfl hR rfl) ?_
    refine stpx (fun _ _ => ex_eqi rfl rfl _ rfl) ?_
    refine stpx (fun _ _ => ex_pick (r := true) rfl) ?_
    refine stpm ?_
    refine stpk Tryz.call43 (fun w h => oneGen_v _) ?_
    refine stpk Tryz.call11 (fun w h => hg1 _) ?_
    refine stpx (fun _ _ => ex_pick (r := true) rfl) ?_
    refine stpm ?_
    refine stpk Tryz.call44 (fun w h => twoGen_v _) ?_
    refine stpk Tryz.call13 (fun w h => hg2 _) ?_
    refine stpx (fun _ _ => ex_pick (r := true) rfl) ?_
    exact stpa .nil
  intro w5 hb5 HB6
  exact wpr (ret1 Tryz.results14 (res_tmp rfl)) HB6
theorem ptalive_v (w : World) : Calls Tryz.prog 14 #[] w (Is (.bool true) w) := by
  refine ptalive_m (put1L (EP.zero : E1).pt) (put1_len _) (fun w => pt1put_q EP.zero (EP.times_zero C1 rN) w) (fun w => ?_) (fun w => ?_) w
  · rw [onegen_t]
    exact oneGroup_q G1 true ⟨fun _ => g1_order, fun _ => rfl⟩ w
  · rw [twogen_t]
    exact twoGroup_q G2 true ⟨fun _ => g2_order, fun _ => rfl⟩ w
end

section
open Go.RowKit Cv
set_option maxRecDepth 20000
set_option maxHeartbeats 4000000
theorem ptWr_nn (x : Nat) (y : Nat) (i : Bool) (p : Nat) (q : Nat) (r : Nat) (s : Nat) (j : Bool) (hP1 : CI 6 #[sv [.n 6 x, .n 6 y, .b i]] (.tuple #[str [], .int .i64 30])) (hW1 : CI 7 #[sv [.n 6 x, .n 6 y, .b i]] (.tuple #[str [], .int .i64 30])) (hR1 : CI 10 #[sv [.n 6 x, .n 6 y, .b i]] (.bool false)) (hP2 : CI 8 #[sv [.n 6 p, .n 6 q, .n 6 r, .n 6 s, .b j]] (.tuple #[str [], .int .i64 30])) (hW2 : CI 9 #[sv [.n 6 p, .n 6 q, .n 6 r, .n 6 s, .b j]] (.tuple #[str [], .int .i64 30])) (hR2 : CI 12 #[sv [.n 6 p, .n 6 q, .n 6 r, .n 6 s, .b j]] (.bool false)) : CI 3 #[sv [.n 6 x, .n 6 y, .b i], sv [.n 6 p, .n 6 q, .n 6 r, .n 6 s, .b j]] (.bool true) := fun w => by
  go_enter Tryz.func3, Tryz.ntmps3
  refine rh2 (brf w) 26 0 [.n 6 x, .n 6 y, .b i] 30 1 [.n 6 p, .n 6 q, .n 6 r, .n 6 s, .b j] [2, 3, 4] (fun γ => [pz (γ 0), pz (γ 1), .bool false]) ?_ ?_
  · refine stpb 0 (fun γ w h => ex_boxs (l := [.n 6 x, .n 6 y, .b i]) rfl) ?_
    refine stpb 1 (fun γ w h => ex_boxs (l := [.n 6 p, .n 6 q, .n 6 r, .n 6 s, .b j]) rfl) ?_
    exact stpa .nil
  intro γ1 w1 hb1 A2 A3 _ _ hn1 HB4
  refine rh0 HB4 [16, 17, 15, 18, 19, 5, 6] [sv [.n 6 x, .n 6 y, .b i], .tuple #[str [], .int .i64 30], .tuple #[str [], .int .i64 30], str [], .int .i64 30, str [], .int .i64 30] ?_ ?_
  · refine stpv (fun γ w h => ex_loads 0 3 (m := [.n 6 x, .n 6 y, .b i]) flG1 rfl rfl (A2.keep h.out) rfl rfl) ?_
    refine stpk Tryz.call6 (fun w h => hP1 _) ?_
    refine stpm ?_
    refine stpx (fun _ _ => ex_extract rfl rfl) ?_
    refine stpx (fun _ _ => ex_extract rfl rfl) ?_
    refine stpa ?_
    exact stpa .nil
  intro w5 hb5 HB8
  have A6 := A2.keep hb5.out
  have A7 := A3.keep hb5.out
  refine rh0 HB8 [21, 22, 20, 23, 24, 7, 8] [sv [.n 6 x, .n 6 y, .b i], .tuple #[str [], .int .i64 30], .tuple #[str [], .int .i64 30], str [], .int .i64 30, str [], .int .i64 30] ?_ ?_
  · refine stpv (fun γ w h => ex_loads 0 3 (m := [.n 6 x, .n 6 y, .b i]) flG1 rfl rfl (A6.keep h.out) rfl rfl) ?_
    refine stpk Tryz.call7 (fun w h => hW1 _) ?_
    refine stpm ?_
    refine stpx (fun _ _ => ex_extract rfl rfl) ?_
    refine stpx (fun _ _ => ex_extract rfl rfl) ?_
    refine stpa ?_
    exact stpa .nil
  intro w9 hb9 HB12
  have A10 := A6.keep hb9.out
  have A11 := A7.keep hb9.out
  refine rh0 HB12 [26, 27, 25, 28, 29, 9, 10] [sv [.n 6 p, .n 6 q, .n 6 r, .n 6 s, .b j], .tuple #[str [], .int .i64 30], .tuple #[str [], .int .i64 30], str [], .int .i64 30, str [], .int .i64 30] ?_ ?_
  · refine stpv (fun γ w h => ex_loads 0 5 (m := [.n 6 p, .n 6 q, .n 6 r, .n 6 s, .b j]) flG2 rfl rfl (A11.keep h.out) rfl rfl) ?_
    refine stpk Tryz.call8 (fun w h => hP2 _) ?_
    refine stpm ?_
    refine stpx (fun _ _ => ex_extract rfl rfl) ?_
    refine stpx (fun _ _ => ex_extract rfl rfl) ?_
    refine stpa ?_
    exact stpa .nil
  intro w13 hb13 HB16
  have A14 := A10.keep hb13.out
  have A15 := A11.keep hb13.out
  refine rh0 HB16 [31, 32, 30, 33, 34, 11, 12] [sv [.n 6 p, .n 6 q, .n 6 r, .n 6 s, .b j], .tuple #[str [], .int .i64 30], .tuple #[str [], .int .i64 30], str [], .int .i64 30, str [], .int .i64 30] ?_ ?_
  · refine stpv (fun γ w h => ex_loads 0 5 (m := [.n 6 p, .n 6 q, .n 6 r, .n 6 s, .b j]) flG2 rfl rfl (A15.keep h.out) rfl rfl) ?_
    refine stpk Tryz.call9 (fun w h => hW2 _) ?_
    refine stpm ?_
    refine stpx (fun _ _ => ex_extract rfl rfl) ?_
    refine stpx (fun _ _ => ex_extract rfl rfl) ?_
    refine stpa ?_
    exact stpa .nil
  intro w17 hb17 HB20
  have A18 := A14.keep hb17.out
  have A19 := A15.keep hb17.out
  refine rh0 HB20 [13, 14] [.int .i64 0, .int .i64 0] ?_ ?_
  · refine stpa ?_
    exact stpa .nil
  intro w21 hb21 HB24
  have A22 := A18.keep hb21.out
  have A23 := A19.keep hb21.out
  refine wp_seq ?_
  refine rh0 HB24 [35, 36, 37] [sv [.n 6 x, .n 6 y, .b i], .bool false, .bool true] ?_ ?_
  · refine stpv (fun γ w h => ex_loads 0 3 (m := [.n 6 x, .n 6 y, .b i]) flG1 rfl rfl (A22.keep h.out) rfl rfl) ?_
    refine stpk Tryz.call10 (fun w h => hR1 _) ?_
    exact stpx (fun _ _ => ex_not (r := false) rfl) .nil
  intro w25 hb25 HB28
  have A27 := A23.keep hb25.out
  refine wp_cond_true rfl ?_
  refine region_0 [13] [.int .i64 30] ?_ ?_
  · exact stpa .nil
  intro w29 hb29
  have A31 := A27.keep hb29.out
  have HB32 := below_then HB28 hb29.out
  refine th_r ?_
  refine wp_seq ?_
  refine rh0 HB32 [41, 42, 43] [sv [.n 6 p, .n 6 q, .n 6 r, .n 6 s, .b j], .bool false, .bool true] ?_ ?_
  · refine stpv (fun γ w h => ex_loads 0 5 (m := [.n 6 p, .n 6 q, .n 6 r, .n 6 s, .b j]) flG2 rfl rfl (A31.keep h.out) rfl rfl) ?_
    refine stpk Tryz.call12 (fun w h => hR2 _) ?_
    exact stpx (fun _ _ => ex_not (r := false) rfl) .nil
  intro w33 hb33 HB36
  refine wp_cond_true rfl ?_
  refine region_0 [14] [.int .i64 30] ?_ ?_
  · exact stpa .nil
  intro w37 hb37
  have HB40 := below_then HB36 hb37.out
  refine th_r ?_
  refine wp_seq ?_
  refine rh0 HB40 [47, 48, 49, 50, 51, 52, 53, 54, 55, 56, 57, 58, 59, 60, 61, 62, 63, 64, 65, 66, 67, 68] [.bool true, .bool false, .bool false, .int .i64 30, .int .i64 30, .bool false, .bool false, .bool false, .int .i64 30, .int .i64 30, .bool false, .bool false, .bool false, .int .i64 30, .int .i64 30, .bool false, .bool false, .bool false, .int .i64 30, .int .i64 30, .bool false, .bool false] ?_ ?_
  · refine stpk Tryz.call14 (fun w h => ptalive_v _) ?_
    refine stpx (fun _ _ => ex_not (r := true) rfl) ?_
    refine stpm ?_
    refine stpm ?_
    refine stpm ?_
    refine stpx (fun _ _ => ex_neqi rfl rfl _ rfl) ?_
    refine stpx (fun _ _ => ex_pick (r := false) rfl) ?_
    refine stpm ?_
    refine stpm ?_
    refine stpm ?_
    refine stpx (fun _ _ => ex_neqi rfl rfl _ rfl) ?_
    refine stpx (fun _ _ => ex_pick (r := false) rfl) ?_
    refine stpm ?_
    refine stpm ?_
    refine stpm ?_
    refine stpx (fun _ _ => ex_neqi rfl rfl _ rfl) ?_
    refine stpx (fun _ _ => ex_pick (r := false) rfl) ?_
    refine stpm ?_
    refine stpm ?_
    refine stpm ?_
    refine stpx (fun _ _ => ex_neqi rfl rfl _ rfl) ?_
    exact stpx (fun _ _ => ex_pick (r := false) rfl) .nil
  intro w41 hb41 HB44
  refine wp_cond_false rfl ?_
  refine wp_skip ?_
  refine th_r ?_
  refine wp_seq ?_
  refine rh0 HB44 [69, 70, 71, 72, 73, 74, 75, 76, 77, 78, 79, 80, 81, 82, 83, 84, 85, 86, 87, 88, 89, 90, 91, 92] [.int .i64 30, .bool false, .bool false, undef, undef, undef, undef, undef, undef, undef, undef, undef, undef, .bool false, .bool false, .int .i64 30, .bool true, .bool true, str [], str [], str [], .bool false, .bool false, .bool false] ?_ ?_
  · refine stpm ?_
    refine stpx (fun _ _ => ex_eqi rfl rfl _ rfl) ?_
    refine stpm ?_
    refine stps ?_
    refine stps ?_
    refine stps ?_
    refine stps ?_
    refine stps ?_
    refine stps ?_
    refine stps ?_
    refine stps ?_
    refine stps ?_
    refine stps ?_
    refine stpx (fun _ _ => ex_pick (r := false) rfl) ?_
    refine stpm ?_
    refine stpm ?_
    refine stpx (fun _ _ => ex_neqi rfl rfl _ rfl) ?_
    refine stpm ?_
    refine stpm ?_
    refine stpm ?_
    refine stpx (fun _ _ => ex_catL (a := []) (b := []) rfl rfl (by simp)) ?_
    refine stpx (fun _ _ => ex_neqL rfl rfl true (by simp)) ?_
    refine stpx (fun _ _ => ex_pick (r := true) rfl) ?_
    exact stpx (fun _ _ => ex_pick (r := false) rfl) .nil
  intro w45 hb45 HB48
  refine wp_cond_false rfl ?_
  refine wp_skip ?_
  refine th_r ?_
  refine rh0 HB48 [93, 94, 95, 96, 97, 98, 99, 100, 101, 102, 103, 104, 105, 106, 107, 108, 109, 110, 111, 112, 113, 114, 115, 116, 4] [.int .i64 30, .bool false, .bool false, undef, undef, undef, undef, .bool false, .bool false, undef, undef, undef, undef, .bool false, .bool false, .int .i64 30, .bool true, .bool true, str [], str [], str [], .bool true, .bool true, .bool true, .bool true] ?_ ?_
  · refine stpm ?_
    refine stpx (fun _ _ => ex_eqi rfl rfl _ rfl) ?_
    refine stpm ?_
    refine stps ?_
    refine stps ?_
    refine stps ?_
    refine stps ?_
    refine stpx (fun _ _ => ex_pick (r := false) rfl) ?_
    refine stpm ?_
    refine stps ?_
    refine stps ?_
    refine stps ?_
    refine stps ?_
    refine stpx (fun _ _ => ex_pick (r := false) rfl) ?_
    refine stpm ?_
    refine stpm ?_
    refine stpx (fun _ _ => ex_neqi rfl rfl _ rfl) ?_
    refine stpm ?_
    refine stpm ?_
    refine stpm ?_
    refine stpx (fun _ _ => ex_catL (a := []) (b := []) rfl rfl (by simp)) ?_
    refine stpx (fun _ _ => ex_eqL rfl rfl true (by simp)) ?_
    refine stpx (fun _ _ => ex_pick (r := true) rfl) ?_
    refine stpx (fun _ _ => ex_pick (r := false) rfl) ?_
    exact stpa .nil
  intro w49 hb49 HB52
  exact wpr (ret1 Tryz.results3 (res_tmp rfl)) HB52
theorem ptWr_no (x : Nat) (y : Nat) (i : Bool) (p : Nat) (q : Nat) (r : Nat) (s : Nat) (j : Bool) (hP1 : CI 6 #[sv [.n 6 x, .n 6 y, .b i]] (.tuple #[str [], .int .i64 30])) (hW1 : CI 7 #[sv [.n 6 x, .n 6 y, .b i]] (.tuple #[str [], .int .i64 30])) (hR1 : CI 10 #[sv [.n 6 x, .n 6 y, .b i]] (.bool false)) (hP2 : CI 8 #[sv [.n 6 p, .n 6 q, .n 6 r, .n 6 s, .b j]] (.tuple #[str [], .int .i64 31])) (hW2 : CI 9 #[sv [.n 6 p, .n 6 q, .n 6 r, .n 6 s, .b j]] (.tuple #[str [], .int .i64 31])) (hR2 : CI 12 #[sv [.n 6 p, .n 6 q, .n 6 r, .n 6 s, .b j]] (.bool true)) (hG2 : CI 13 #[sv [.n 6 p, .n 6 q, .n 6 r, .n 6 s, .b j]] (.bool false)) : CI 3 #[sv [.n 6 x, .n 6 y, .b i], sv [.n 6 p, .n 6 q, .n 6 r, .n 6 s, .b j]] (.bool true) := fun w => by
  go_enter Tryz.func3, Tryz.ntmps3
  refine rh2 (brf w) 26 0 [.n 6 x, .n 6 y, .b i] 30 1 [.n 6 p, .n 6 q, .n 6 r, .n 6 s, .b j] [2, 3, 4] (fun γ => [pz (γ 0), pz (γ 1), .bool false]) ?_ ?_
  · refine stpb 0 (fun γ w h => ex_boxs (l := [.n 6 x, .n 6 y, .b i]) rfl) ?_
    refine stpb 1 (fun γ w h => ex_boxs (l := [.n 6 p, .n 6 q, .n 6 r, .n 6 s, .b j]) rfl) ?_
    exact stpa .nil
  intro γ1 w1 hb1 A2 A3 _ _ hn1 HB4
  refine rh0 HB4 [16, 17, 15, 18, 19, 5, 6] [sv [.n 6 x, .n 6 y, .b i], .tuple #[str [], .int .i64 30], .tuple #[str [], .int .i64 30], str [], .int .i64 30, str [], .int .i64 30] ?_ ?_
  · refine stpv (fun γ w h => ex_loads 0 3 (m := [.n 6 x, .n 6 y, .b i]) flG1 rfl rfl (A2.keep h.out) rfl rfl) ?_
    refine stpk Tryz.call6 (fun w h => hP1 _) ?_
    refine stpm ?_
    refine stpx (fun _ _ => ex_extract rfl rfl) ?_
    refine stpx (fun _ _ => ex_extract rfl rfl) ?_
    refine stpa ?_
    exact stpa .nil
  intro w5 hb5 HB8
  have A6 := A2.keep hb5.out
  have A7 := A3.keep hb5.out
  refine rh0 HB8 [21, 22, 20, 23, 24, 7, 8] [sv [.n 6 x, .n 6 y, .b i], .tuple #[str [], .int .i64 30], .tuple #[str [], .int .i64 30], str [], .int .i64 30, str [], .int .i64 30] ?_ ?_
  · refine stpv (fun γ w h => ex_loads 0 3 (m := [.n 6 x, .n 6 y, .b i]) flG1 rfl rfl (A6.keep h.out) rfl rfl) ?_
    refine stpk Tryz.call7 (fun w h => hW1 _) ?_
    refine stpm ?_
    refine stpx (fun _ _ => ex_extract rfl rfl) ?_
    refine stpx (fun _ _ => ex_extract rfl rfl) ?_
    refine stpa ?_
    exact stpa .nil
  intro w9 hb9 HB12
  have A10 := A6.keep hb9.out
  have A11 := A7.keep hb9.out
  refine rh0 HB12 [26, 27, 25, 28, 29, 9, 10] [sv [.n 6 p, .n 6 q, .n 6 r, .n 6 s, .b j], .tuple #[str [], .int .i64 31], .tuple #[str [], .int .i64 31], str [], .int .i64 31, str [], .int .i64 31] ?_ ?_
  · refine stpv (fun γ w h => ex_loads 0 5 (m := [.n 6 p, .n 6 q, .n 6 r, .n 6 s, .b j]) flG2 rfl rfl (A11.keep h.out) rfl rfl) ?_
    refine stpk Tryz.call8 (fun w h => hP2 _) ?_
    refine stpm ?_
    refine stpx (fun _ _ => ex_extract rfl rfl) ?_
    refine stpx (fun _ _ => ex_extract rfl rfl) ?_
    refine stpa ?_
    exact stpa .nil
  intro w13 hb13 HB16
  have A14 := A10.keep hb13.out
  have A15 := A11.keep hb13.out
  refine rh0 HB16 [31, 32, 30, 33, 34, 11, 12] [sv [.n 6 p, .n 6 q, .n 6 r, .n 6 s, .b j], .tuple #[str [], .int .i64 31], .tuple #[str [], .int .i64 31], str [], .int .i64 31, str [], .int .i64 31] ?_ ?_
  · refine stpv (fun γ w h => ex_loads 0 5 (m := [.n 6 p, .n 6 q, .n 6 r, .n 6 s, .b j]) flG2 rfl rfl (A15.keep h.out) rfl rfl) ?_
    refine stpk Tryz.call9 (fun w h => hW2 _) ?_
    refine stpm ?_
    refine stpx (fun _ _ => ex_extract rfl rfl) ?_
    refine stpx (fun _ _ => ex_extract rfl rfl) ?_
    refine stpa ?_
    exact stpa .nil
  intro w17 hb17 HB20
  have A18 := A14.keep hb17.out
  have A19 := A15.keep hb17.out
  refine rh0 HB20 [13, 14] [.int .i64 0, .int .i64 0] ?_ ?_
  · refine stpa ?_
    exact stpa .nil
  intro w21 hb21 HB24
  have A22 := A18.keep hb21.out
  have A23 := A19.keep hb21.out
  refine wp_seq ?_
  refine rh0 HB24 [35, 36, 37] [sv [.n 6 x, .n 6 y, .b i], .bool false, .bool true] ?_ ?_
  · refine stpv (fun γ w h => ex_loads 0 3 (m := [.n 6 x, .n 6 y, .b i]) flG1 rfl rfl (A22.keep h.out) rfl rfl) ?_
    refine stpk Tryz.call10 (fun w h => hR1 _) ?_
    exact stpx (fun _ _ => ex_not (r := false) rfl) .nil
  intro w25 hb25 HB28
  have A27 := A23.keep hb25.out
  refine wp_cond_true rfl ?_
  refine region_0 [13] [.int .i64 30] ?_ ?_
  · exact stpa .nil
  intro w29 hb29
  have A31 := A27.keep hb29.out
  have HB32 := below_then HB28 hb29.out
  refine th_r ?_
  refine wp_seq ?_
  refine rh0 HB32 [41, 42, 43] [sv [.n 6 p, .n 6 q, .n 6 r, .n 6 s, .b j], .bool true, .bool false] ?_ ?_
  · refine stpv (fun γ w h => ex_loads 0 5 (m := [.n 6 p, .n 6 q, .n 6 r, .n 6 s, .b j]) flG2 rfl rfl (A31.keep h.out) rfl rfl) ?_
    refine stpk Tryz.call12 (fun w h => hR2 _) ?_
    exact stpx (fun _ _ => ex_not (r := true) rfl) .nil
  intro w33 hb33 HB36
  have A35 := A31.keep hb33.out
  refine wp_cond_false rfl ?_
  refine rh0 HB36 [44, 45, 46] [sv [.n 6 p, .n 6 q, .n 6 r, .n 6 s, .b j], .bool false, .bool true] ?_ ?_
  · refine stpv (fun γ w h => ex_loads 0 5 (m := [.n 6 p, .n 6 q, .n 6 r, .n 6 s, .b j]) flG2 rfl rfl (A35.keep h.out) rfl rfl) ?_
    refine stpk Tryz.call13 (fun w h => hG2 _) ?_
    exact stpx (fun _ _ => ex_not (r := false) rfl) .nil
  intro w37 hb37 HB40
  refine wp_cond_true rfl ?_
  refine region_0 [14] [.int .i64 31] ?_ ?_
  · exact stpa .nil
  intro w41 hb41
  have HB44 := below_then HB40 hb41.out
  refine th_r ?_
  refine wp_seq ?_
  refine rh0 HB44 [47, 48, 49, 50, 51, 52, 53, 54, 55, 56, 57, 58, 59, 60, 61, 62, 63, 64, 65, 66, 67, 68] [.bool true, .bool false, .bool false, .int .i64 30, .int .i64 30, .bool false, .bool false, .bool false, .int .i64 30, .int .i64 30, .bool false, .bool false, .bool false, .int .i64 31, .int .i64 31, .bool false, .bool false, .bool false, .int .i64 31, .int .i64 31, .bool false, .bool false] ?_ ?_
  · refine stpk Tryz.call14 (fun w h => ptalive_v _) ?_
    refine stpx (fun _ _ => ex_not (r := true) rfl) ?_
    refine stpm ?_
    refine stpm ?_
    refine stpm ?_
    refine stpx (fun _ _ => ex_neqi rfl rfl _ rfl) ?_
    refine stpx (fun _ _ => ex_pick (r := false) rfl) ?_
    refine stpm ?_
    refine stpm ?_
    refine stpm ?_
    refine stpx (fun _ _ => ex_neqi rfl rfl _ rfl) ?_
    refine stpx (fun _ _ => ex_pick (r := false) rfl) ?_
    refine stpm ?_
    refine stpm ?_
    refine stpm ?_
    refine stpx (fun _ _ => ex_neqi rfl rfl _ rfl) ?_
    refine stpx (fun _ _ => ex_pick (r := false) rfl) ?_
    refine stpm ?_
    refine stpm ?_
    refine stpm ?_
    refine stpx (fun _ _ => ex_neqi rfl rfl _ rfl) ?_
    exact stpx (fun _ _ => ex_pick (r := false) rfl) .nil
  intro w45 hb45 HB48
  refine wp_cond_false rfl ?_
  refine wp_skip ?_
  refine th_r ?_
  refine wp_seq ?_
  refine rh0 HB48 [69, 70, 71, 72, 73, 74, 75, 76, 77, 78, 79, 80, 81, 82, 83, 84, 85, 86, 87, 88, 89, 90, 91, 92] [.int .i64 30, .bool false, .bool false, undef, undef, undef, undef, undef, undef, undef, undef, undef, undef, .bool false, .bool false, .int .i64 30, .bool true, .bool true, str [], str [], str [], .bool false, .bool false, .bool false] ?_ ?_
  · refine stpm ?_
    refine stpx (fun _ _ => ex_eqi rfl rfl _ rfl) ?_
    refine stpm ?_
    refine stps ?_
    refine stps ?_
    refine stps ?_
    refine stps ?_
    refine stps ?_
    refine stps ?_
    refine stps ?_
    refine stps ?_
    refine stps ?_
    refine stps ?_
    refine stpx (fun _ _ => ex_pick (r := false) rfl) ?_
    refine stpm ?_
    refine stpm ?_
    refine stpx (fun _ _ => ex_neqi rfl rfl _ rfl) ?_
    refine stpm ?_
    refine stpm ?_
    refine stpm ?_
    refine stpx (fun _ _ => ex_catL (a := []) (b := []) rfl rfl (by simp)) ?_
    refine stpx (fun _ _ => ex_neqL rfl rfl true (by simp)) ?_
    refine stpx (fun _ _ => ex_pick (r := true) rfl) ?_
    exact stpx (fun _ _ => ex_pick (r := false) rfl) .nil
  intro w49 hb49 HB52
  refine wp_cond_false rfl ?_
  refine wp_skip ?_
  refine th_r ?_
  refine rh0 HB52 [93, 94, 95, 96, 97, 98, 99, 100, 101, 102, 103, 104, 105, 106, 107, 108, 109, 110, 111, 112, 113, 114, 115, 116, 4] [.int .i64 31, .bool false, .bool false, undef, undef, undef, undef, .bool false, .bool false, undef, undef, undef, undef, .bool false, .bool false, .int .i64 31, .bool true, .bool true, str [], str [], str [], .bool true, .bool true, .bool true, .bool true] ?_ ?_
  · refine stpm ?_
    refine stpx (fun _ _ => ex_eqi rfl rfl _ rfl) ?_
    refine stpm ?_
    refine stps ?_
    refine stps ?_
    refine stps ?_
    refine stps ?_
    refine stpx (fun _ _ => ex_pick (r := false) rfl) ?_
    refine stpm ?_
    refine stps ?_
    refine stps ?_
    refine stps ?_
    refine stps ?_
    refine stpx (fun _ _ => ex_pick (r := false) rfl) ?_
    refine stpm ?_
    refine stpm ?_
    refine stpx (fun _ _ => ex_neqi rfl rfl _ rfl) ?_
    refine stpm ?_
    refine stpm ?_
    refine stpm ?_
    refine stpx (fun _ _ => ex_catL (a := []) (b := []) rfl rfl (by simp)) ?_
    refine stpx (fun _ _ => ex_eqL rfl rfl true (by simp)) ?_
    refine stpx (fun _ _ => ex_pick (r := true) rfl) ?_
    refine stpx (fun _ _ => ex_pick (r := false) rfl) ?_
    exact stpa .nil
  intro w53 hb53 HB56
  exact wpr (ret1 Tryz.results3 (res_tmp rfl)) HB56
theorem ptWr_nk (x : Nat) (y : Nat) (i : Bool) (p : Nat) (q : Nat) (r : Nat) (s : Nat) (j : Bool) (hP1 : CI 6 #[sv [.n 6 x, .n 6 y, .b i]] (.tuple #[str [], .int .i64 30])) (hW1 : CI 7 #[sv [.n 6 x, .n 6 y, .b i]] (.tuple #[str [], .int .i64 30])) (hR1 : CI 10 #[sv [.n 6 x, .n 6 y, .b i]] (.bool false)) (S2 T2 : List UInt8) (hP2 : CI 8 #[sv [.n 6 p, .n 6 q, .n 6 r, .n 6 s, .b j]] (.tuple #[str S2, .int .i64 0])) (hW2 : CI 9 #[sv [.n 6 p, .n 6 q, .n 6 r, .n 6 s, .b j]] (.tuple #[str T2, .int .i64 0])) (hR2 : CI 12 #[sv [.n 6 p, .n 6 q, .n 6 r, .n 6 s, .b j]] (.bool true)) (hG2 : CI 13 #[sv [.n 6 p, .n 6 q, .n 6 r, .n 6 s, .b j]] (.bool true)) (kA2 : CI 16 #[sv [.n 6 p, .n 6 q, .n 6 r, .n 6 s, .b j], .bool true] (str S2)) (kB2 : CI 16 #[sv [.n 6 p, .n 6 q, .n 6 r, .n 6 s, .b j], .bool false] (str T2)) : CI 3 #[sv [.n 6 x, .n 6 y, .b i], sv [.n 6 p, .n 6 q, .n 6 r, .n 6 s, .b j]] (.bool true) := fun w => by
  go_enter Tryz.func3, Tryz.ntmps3
  refine rh2 (brf w) 26 0 [.n 6 x, .n 6 y, .b i] 30 1 [.n 6 p, .n 6 q, .n 6 r, .n 6 s, .b j] [2, 3, 4] (fun γ => [pz (γ 0), pz (γ 1), .bool false]) ?_ ?_
  · refine stpb 0 (fun γ w h => ex_boxs (l := [.n 6 x, .n 6 y, .b i]) rfl) ?_
    refine stpb 1 (fun γ w h => ex_boxs (l := [.n 6 p, .n 6 q, .n 6 r, .n 6 s, .b j]) rfl) ?_
    exact stpa .nil
  intro γ1 w1 hb1 A2 A3 _ _ hn1 HB4
  refine rh0 HB4 [16, 17, 15, 18, 19, 5, 6] [sv [.n 6 x, .n 6 y, .b i], .tuple #[str [], .int .i64 30], .tuple #[str [], .int .i64 30], str [], .int .i64 30, str [], .int .i64 30] ?_ ?_
  · refine stpv (fun γ w h => ex_loads 0 3 (m := [.n 6 x, .n 6 y, .b i]) flG1 rfl rfl (A2.keep h.out) rfl rfl) ?_
    refine stpk Tryz.call6 (fun w h => hP1 _) ?_
    refine stpm ?_
    refine stpx (fun _ _ => ex_extract rfl rfl) ?_
    refine stpx (fun _ _ => ex_extract rfl rfl) ?_
    refine stpa ?_
    exact stpa .nil
  intro w5 hb5 HB8
  have A6 := A2.keep hb5.out
  have A7 := A3.keep hb5.out
  refine rh0 HB8 [21, 22, 20, 23, 24, 7, 8] [sv [.n 6 x, .n 6 y, .b i], .tuple #[str [], .int .i64 30], .tuple #[str [], .int .i64 30], str [], .int .i64 30, str [], .int .i64 30] ?_ ?_
  · refine stpv (fun γ w h => ex_loads 0 3 (m := [.n 6 x, .n 6 y, .b i]) flG1 rfl rfl (A6.keep h.out) rfl rfl) ?_
    refine stpk Tryz.call7 (fun w h => hW1 _) ?_
    refine stpm ?_
    refine stpx (fun _ _ => ex_extract rfl rfl) ?_
    refine stpx (fun _ _ => ex_extract rfl rfl) ?_
    refine stpa ?_
    exact stpa .nil
  intro w9 hb9 HB12
  have A10 := A6.keep hb9.out
  have A11 := A7.keep hb9.out
  refine rh0 HB12 [26, 27, 25, 28, 29, 9, 10] [sv [.n 6 p, .n 6 q, .n 6 r, .n 6 s, .b j], .tuple #[str S2, .int .i64 0], .tuple #[str S2, .int .i64 0], str S2, .int .i64 0, str S2, .int .i64 0] ?_ ?_
  · refine stpv (fun γ w h => ex_loads 0 5 (m := [.n 6 p, .n 6 q, .n 6 r, .n 6 s, .b j]) flG2 rfl rfl (A11.keep h.out) rfl rfl) ?_
    refine stpk Tryz.call8 (fun w h => hP2 _) ?_
    refine stpm ?_
    refine stpx (fun _ _ => ex_extract rfl rfl) ?_
    refine stpx (fun _ _ => ex_extract rfl rfl) ?_
    refine stpa ?_
    exact stpa .nil
  intro w13 hb13 HB16
  have A14 := A10.keep hb13.out
  have A15 := A11.keep hb13.out
  refine rh0 HB16 [31, 32, 30, 33, 34, 11, 12] [sv [.n 6 p, .n 6 q, .n 6 r, .n 6 s, .b j], .tuple #[str T2, .int .i64 0], .tuple #[str T2, .int .i64 0], str T2, .int .i64 0, str T2, .int .i64 0] ?_ ?_
  · refine stpv (fun γ w h => ex_loads 0 5 (m := [.n 6 p, .n 6 q, .n 6 r, .n 6 s, .b j]) flG2 rfl rfl (A15.keep h.out) rfl rfl) ?_
    refine stpk Tryz.call9 (fun w h => hW2 _) ?_
    refine stpm ?_
    refine stpx (fun _ _ => ex_extract rfl rfl) ?_
    refine stpx (fun _ _ => ex_extract rfl rfl) ?_
    refine stpa ?_
    exact stpa .nil
  intro w17 hb17 HB20
  have A18 := A14.keep hb17.out
  have A19 := A15.keep hb17.out
  refine rh0 HB20 [13, 14] [.int .i64 0, .int .i64 0] ?_ ?_
  · refine stpa ?_
    exact stpa .nil
  intro w21 hb21 HB24
  have A22 := A18.keep hb21.out
  have A23 := A19.keep hb21.out
  refine wp_seq ?_
  refine rh0 HB24 [35, 36, 37] [sv [.n 6 x, .n 6 y, .b i], .bool false, .bool true] ?_ ?_
  · refine stpv (fun γ w h => ex_loads 0 3 (m := [.n 6 x, .n 6 y, .b i]) flG1 rfl rfl (A22.keep h.out) rfl rfl) ?_
    refine stpk Tryz.call10 (fun w h => hR1 _) ?_
    exact stpx (fun _ _ => ex_not (r := false) rfl) .nil
  intro w25 hb25 HB28
  have A27 := A23.keep hb25.out
  refine wp_cond_true rfl ?_
  refine region_0 [13] [.int .i64 30] ?_ ?_
  · exact stpa .nil
  intro w29 hb29
  have A31 := A27.keep hb29.out
  have HB32 := below_then HB28 hb29.out
  refine th_r ?_
  refine wp_seq ?_
  refine rh0 HB32 [41, 42, 43] [sv [.n 6 p, .n 6 q, .n 6 r, .n 6 s, .b j], .bool true, .bool false] ?_ ?_
  · refine stpv (fun γ w h => ex_loads 0 5 (m := [.n 6 p, .n 6 q, .n 6 r, .n 6 s, .b j]) flG2 rfl rfl (A31.keep h.out) rfl rfl) ?_
    refine stpk Tryz.call12 (fun w h => hR2 _) ?_
    exact stpx (fun _ _ => ex_not (r := true) rfl) .nil
  intro w33 hb33 HB36
  have A35 := A31.keep hb33.out
  refine wp_cond_false rfl ?_
  refine rh0 HB36 [44, 45, 46] [sv [.n 6 p, .n 6 q, .n 6 r, .n 6 s, .b j], .bool true, .bool false] ?_ ?_
  · refine stpv (fun γ w h => ex_loads 0 5 (m := [.n 6 p, .n 6 q, .n 6 r, .n 6 s, .b j]) flG2 rfl rfl (A35.keep h.out) rfl rfl) ?_
    refine stpk Tryz.call13 (fun w h => hG2 _) ?_
    exact stpx (fun _ _ => ex_not (r := true) rfl) .nil
  intro w37 hb37 HB40
  have A39 := A35.keep hb37.out
  refine wp_cond_false rfl ?_
  refine wp_skip ?_
  refine th_r ?_
  refine wp_seq ?_
  refine rh0 HB40 [47, 48, 49, 50, 51, 52, 53, 54, 55, 56, 57, 58, 59, 60, 61, 62, 63, 64, 65, 66, 67, 68] [.bool true, .bool false, .bool false, .int .i64 30, .int .i64 30, .bool false, .bool false, .bool false, .int .i64 30, .int .i64 30, .bool false, .bool false, .bool false, .int .i64 0, .int .i64 0, .bool false, .bool false, .bool false, .int .i64 0, .int .i64 0, .bool false, .bool false] ?_ ?_
  · refine stpk Tryz.call14 (fun w h => ptalive_v _) ?_
    refine stpx (fun _ _ => ex_not (r := true) rfl) ?_
    refine stpm ?_
    refine stpm ?_
    refine stpm ?_
    refine stpx (fun _ _ => ex_neqi rfl rfl _ rfl) ?_
    refine stpx (fun _ _ => ex_pick (r := false) rfl) ?_
    refine stpm ?_
    refine stpm ?_
    refine stpm ?_
    refine stpx (fun _ _ => ex_neqi rfl rfl _ rfl) ?_
    refine stpx (fun _ _ => ex_pick (r := false) rfl) ?_
    refine stpm ?_
    refine stpm ?_
    refine stpm ?_
    refine stpx (fun _ _ => ex_neqi rfl rfl _ rfl) ?_
    refine stpx (fun _ _ => ex_pick (r := false) rfl) ?_
    refine stpm ?_
    refine stpm ?_
    refine stpm ?_
    refine stpx (fun _ _ => ex_neqi rfl rfl _ rfl) ?_
    exact stpx (fun _ _ => ex_pick (r := false) rfl) .nil
  intro w41 hb41 HB44
  have A43 := A39.keep hb41.out
  refine wp_cond_false rfl ?_
  refine wp_skip ?_
  refine th_r ?_
  refine wp_seq ?_
  refine rh0 HB44 [69, 70, 71, 72, 73, 74, 75, 76, 77, 78, 79, 80, 81, 82, 83, 84, 85, 86, 87, 88, 89, 90, 91, 92] [.int .i64 30, .bool false, .bool false, undef, undef, undef, undef, undef, undef, undef, undef, undef, undef, .bool false, .bool false, .int .i64 30, .bool true, .bool true, str [], str [], str [], .bool false, .bool false, .bool false] ?_ ?_
  · refine stpm ?_
    refine stpx (fun _ _ => ex_eqi rfl rfl _ rfl) ?_
    refine stpm ?_
    refine stps ?_
    refine stps ?_
    refine stps ?_
    refine stps ?_
    refine stps ?_
    refine stps ?_
    refine stps ?_
    refine stps ?_
    refine stps ?_
    refine stps ?_
    refine stpx (fun _ _ => ex_pick (r := false) rfl) ?_
    refine stpm ?_
    refine stpm ?_
    refine stpx (fun _ _ => ex_neqi rfl rfl _ rfl) ?_
    refine stpm ?_
    refine stpm ?_
    refine stpm ?_
    refine stpx (fun _ _ => ex_catL (a := []) (b := []) rfl rfl (by simp)) ?_
    refine stpx (fun _ _ => ex_neqL rfl rfl true (by simp)) ?_
    refine stpx (fun _ _ => ex_pick (r := true) rfl) ?_
    exact stpx (fun _ _ => ex_pick (r := false) rfl) .nil
  intro w45 hb45 HB48
  have A47 := A43.keep hb45.out
  refine wp_cond_false rfl ?_
  refine wp_skip ?_
  refine th_r ?_
  refine rh0 HB48 [93, 94, 95, 96, 97, 98, 99, 100, 101, 102, 103, 104, 105, 106, 107, 108, 109, 110, 111, 112, 113, 114, 115, 116, 4] [.int .i64 0, .bool true, .bool true, str S2, sv [.n 6 p, .n 6 q, .n 6 r, .n 6 s, .b j], str S2, .bool true, .bool true, .bool true, str T2, sv [.n 6 p, .n 6 q, .n 6 r, .n 6 s, .b j], str T2, .bool true, .bool true, .bool true, undef, undef, undef, undef, undef, undef, undef, undef, .bool true, .bool true] ?_ ?_
  · refine stpm ?_
    refine stpx (fun _ _ => ex_eqi rfl rfl _ rfl) ?_
    refine stpm ?_
    refine stpm ?_
    refine stpv (fun γ w h => ex_loads 0 5 (m := [.n 6 p, .n 6 q, .n 6 r, .n 6 s, .b j]) flG2 rfl rfl (A47.keep h.out) rfl rfl) ?_
    refine stpk Tryz.call16 (fun w h => kA2 _) ?_
    refine stpx (fun _ _ => ex_eqL rfl rfl true (by simp)) ?_
    refine stpx (fun _ _ => ex_pick (r := true) rfl) ?_
    refine stpm ?_
    refine stpm ?_
    refine stpv (fun γ w h => ex_loads 0 5 (m := [.n 6 p, .n 6 q, .n 6 r, .n 6 s, .b j]) flG2 rfl rfl (A47.keep h.out) rfl rfl) ?_
    refine stpk Tryz.call16 (fun w h => kB2 _) ?_
    refine stpx (fun _ _ => ex_eqL rfl rfl true (by simp)) ?_
    refine stpx (fun _ _ => ex_pick (r := true) rfl) ?_
    refine stpm ?_
    refine stps ?_
    refine stps ?_
    refine stps ?_
    refine stps ?_
    refine stps ?_
    refine stps ?_
    refine stps ?_
    refine stps ?_
    refine stpx (fun _ _ => ex_pick (r := true) rfl) ?_
    exact stpa .nil
  intro w49 hb49 HB52
  exact wpr (ret1 Tryz.results3 (res_tmp rfl)) HB52
theorem ptWr_on (x : Nat) (y : Nat) (i : Bool) (p : Nat) (q : Nat) (r : Nat) (s : Nat) (j : Bool) (hP1 : CI 6 #[sv [.n 6 x, .n 6 y, .b i]] (.tuple #[str [], .int .i64 31])) (hW1 : CI 7 #[sv [.n 6 x, .n 6 y, .b i]] (.tuple #[str [], .int .i64 31])) (hR1 : CI 10 #[sv [.n 6 x, .n 6 y, .b i]] (.bool true)) (hG1 : CI 11 #[sv [.n 6 x, .n 6 y, .b i]] (.bool false)) (hP2 : CI 8 #[sv [.n 6 p, .n 6 q, .n 6 r, .n 6 s, .b j]] (.tuple #[str [], .int .i64 30])) (hW2 : CI 9 #[sv [.n 6 p, .n 6 q, .n 6 r, .n 6 s, .b j]] (.tuple #[str [], .int .i64 30])) (hR2 : CI 12 #[sv [.n 6 p, .n 6 q, .n 6 r, .n 6 s, .b j]] (.bool false)) : CI 3 #[sv [.n 6 x, .n 6 y, .b i], sv [.n 6 p, .n 6 q, .n 6 r, .n 6 s, .b j]] (.bool true) := fun w => by
  go_enter Tryz.func3, Tryz.ntmps3
  refine rh2 (brf w) 26 0 [.n 6 x, .n 6 y, .b i] 30 1 [.n 6 p, .n 6 q, .n 6 r, .n 6 s, .b j] [2, 3, 4] (fun γ => [pz (γ 0), pz (γ 1), .bool false]) ?_ ?_
  · refine stpb 0 (fun γ w h => ex_boxs (l := [.n 6 x, .n 6 y, .b i]) rfl) ?_
    refine stpb 1 (fun γ w h => ex_boxs (l := [.n 6 p, .n 6 q, .n 6 r, .n 6 s, .b j]) rfl) ?_
    exact stpa .nil
  intro γ1 w1 hb1 A2 A3 _ _ hn1 HB4
  refine rh0 HB4 [16, 17, 15, 18, 19, 5, 6] [sv [.n 6 x, .n 6 y, .b i], .tuple #[str [], .int .i64 31], .tuple #[str [], .int .i64 31], str [], .int .i64 31, str [], .int .i64 31] ?_ ?_
  · refine stpv (fun γ w h => ex_loads 0 3 (m := [.n 6 x, .n 6 y, .b i]) flG1 rfl rfl (A2.keep h.out) rfl rfl) ?_
    refine stpk Tryz.call6 (fun w h => hP1 _) ?_
    refine stpm ?_
    refine stpx (fun _ _ => ex_extract rfl rfl) ?_
    refine stpx (fun _ _ => ex_extract rfl rfl) ?_
    refine stpa ?_
    exact stpa .nil
  intro w5 hb5 HB8
  have A6 := A2.keep hb5.out
  have A7 := A3.keep hb5.out
  refine rh0 HB8 [21, 22, 20, 23, 24, 7, 8] [sv [.n 6 x, .n 6 y, .b i], .tuple #[str [], .int .i64 31], .tuple #[str [], .int .i64 31], str [], .int .i64 31, str [], .int .i64 31] ?_ ?_
  · refine stpv (fun γ w h => ex_loads 0 3 (m := [.n 6 x, .n 6 y, .b i]) flG1 rfl rfl (A6.keep h.out) rfl rfl) ?_
    refine stpk Tryz.call7 (fun w h => hW1 _) ?_
    refine stpm ?_
    refine stpx (fun _ _ => ex_extract rfl rfl) ?_
    refine stpx (fun _ _ => ex_extract rfl rfl) ?_
    refine stpa ?_
    exact stpa .nil
  intro w9 hb9 HB12
  have A10 := A6.keep hb9.out
  have A11 := A7.keep hb9.out
  refine rh0 HB12 [26, 27, 25, 28, 29, 9, 10] [sv [.n 6 p, .n 6 q, .n 6 r, .n 6 s, .b j], .tuple #[str [], .int .i64 30], .tuple #[str [], .int .i64 30], str [], .int .i64 30, str [], .int .i64 30] ?_ ?_
  · refine stpv (fun γ w h => ex_loads 0 5 (m := [.n 6 p, .n 6 q, .n 6 r, .n 6 s, .b j]) flG2 rfl rfl (A11.keep h.out) rfl rfl) ?_
    refine stpk Tryz.call8 (fun w h => hP2 _) ?_
    refine stpm ?_
    refine stpx (fun _ _ => ex_extract rfl rfl) ?_
    refine stpx (fun _ _ => ex_extract rfl rfl) ?_
    refine stpa ?_
    exact stpa .nil
  intro w13 hb13 HB16
  have A14 := A10.keep hb13.out
  have A15 := A11.keep hb13.out
  refine rh0 HB16 [31, 32, 30, 33, 34, 11, 12] [sv [.n 6 p, .n 6 q, .n 6 r, .n 6 s, .b j], .tuple #[str [], .int .i64 30], .tuple #[str [], .int .i64 30], str [], .int .i64 30, str [], .int .i64 30] ?_ ?_
  · refine stpv (fun γ w h => ex_loads 0 5 (m := [.n 6 p, .n 6 q, .n 6 r, .n 6 s, .b j]) flG2 rfl rfl (A15.keep h.out) rfl rfl) ?_
    refine stpk Tryz.call9 (fun w h => hW2 _) ?_
    refine stpm ?_
    refine stpx (fun _ _ => ex_extract rfl rfl) ?_
    refine stpx (fun _ _ => ex_extract rfl rfl) ?_
    refine stpa ?_
    exact stpa .nil
  intro w17 hb17 HB20
  have A18 := A14.keep hb17.out
  have A19 := A15.keep hb17.out
  refine rh0 HB20 [13, 14] [.int .i64 0, .int .i64 0] ?_ ?_
  · refine stpa ?_
    exact stpa .nil
  intro w21 hb21 HB24
  have A22 := A18.keep hb21.out
  have A23 := A19.keep hb21.out
  refine wp_seq ?_
  refine rh0 HB24 [35, 36, 37] [sv [.n 6 x, .n 6 y, .b i], .bool true, .bool false] ?_ ?_
  · refine stpv (fun γ w h => ex_loads 0 3 (m := [.n 6 x, .n 6 y, .b i]) flG1 rfl rfl (A22.keep h.out) rfl rfl) ?_
    refine stpk Tryz.call10 (fun w h => hR1 _) ?_
    exact stpx (fun _ _ => ex_not (r := true) rfl) .nil
  intro w25 hb25 HB28
  have A26 := A22.keep hb25.out
  have A27 := A23.keep hb25.out
  refine wp_cond_false rfl ?_
  refine rh0 HB28 [38, 39, 40] [sv [.n 6 x, .n 6 y, .b i], .bool false, .bool true] ?_ ?_
  · refine stpv (fun γ w h => ex_loads 0 3 (m := [.n 6 x, .n 6 y, .b i]) flG1 rfl rfl (A26.keep h.out) rfl rfl) ?_
    refine stpk Tryz.call11 (fun w h => hG1 _) ?_
    exact stpx (fun _ _ => ex_not (r := false) rfl) .nil
  intro w29 hb29 HB32
  have A31 := A27.keep hb29.out
  refine wp_cond_true rfl ?_
  refine region_0 [13] [.int .i64 31] ?_ ?_
  · exact stpa .nil
  intro w33 hb33
  have A35 := A31.keep hb33.out
  have HB36 := below_then HB32 hb33.out
  refine th_r ?_
  refine wp_seq ?_
  refine rh0 HB36 [41, 42, 43] [sv [.n 6 p, .n 6 q, .n 6 r, .n 6 s, .b j], .bool false, .bool true] ?_ ?_
  · refine stpv (fun γ w h => ex_loads 0 5 (m := [.n 6 p, .n 6 q, .n 6 r, .n 6 s, .b j]) flG2 rfl rfl (A35.keep h.out) rfl rfl) ?_
    refine stpk Tryz.call12 (fun w h => hR2 _) ?_
    exact stpx (fun _ _ => ex_not (r := false) rfl) .nil
  intro w37 hb37 HB40
  refine wp_cond_true rfl ?_
  refine region_0 [14] [.int .i64 30] ?_ ?_
  · exact stpa .nil
  intro w41 hb41
  have HB44 := below_then HB40 hb41.out
  refine th_r ?_
  refine wp_seq ?_
  refine rh0 HB44 [47, 48, 49, 50, 51, 52, 53, 54, 55, 56, 57, 58, 59, 60, 61, 62, 63, 64, 65, 66, 67, 68] [.bool true, .bool false, .bool false, .int .i64 31, .int .i64 31, .bool false, .bool false, .bool false, .int .i64 31, .int .i64 31, .bool false, .bool false, .bool false, .int .i64 30, .int .i64 30, .bool false, .bool false, .bool false, .int .i64 30, .int .i64 30, .bool false, .bool false] ?_ ?_
  · refine stpk Tryz.call14 (fun w h => ptalive_v _) ?_
    refine stpx (fun _ _ => ex_not (r := true) rfl) ?_
    refine stpm ?_
    refine stpm ?_
    refine stpm ?_
    refine stpx (fun _ _ => ex_neqi rfl rfl _ rfl) ?_
    refine stpx (fun _ _ => ex_pick (r := false) rfl) ?_
    refine stpm ?_
    refine stpm ?_
    refine stpm ?_
    refine stpx (fun _ _ => ex_neqi rfl rfl _ rfl) ?_
    refine stpx (fun _ _ => ex_pick (r := false) rfl) ?_
    refine stpm ?_
    refine stpm ?_
    refine stpm ?_
    refine stpx (fun _ _ => ex_neqi rfl rfl _ rfl) ?_
    refine stpx (fun _ _ => ex_pick (r := false) rfl) ?_
    refine stpm ?_
    refine stpm ?_
    refine stpm ?_
    refine stpx (fun _ _ => ex_neqi rfl rfl _ rfl) ?_
    exact stpx (fun _ _ => ex_pick (r := false) rfl) .nil
  intro w45 hb45 HB48
  refine wp_cond_false rfl ?_
  refine wp_skip ?_
  refine th_r ?_
  refine wp_seq ?_
  refine rh0 HB48 [69, 70, 71, 72, 73, 74, 75, 76, 77, 78, 79, 80, 81, 82, 83, 84, 85, 86, 87, 88, 89, 90, 91, 92] [.int .i64 31, .bool false, .bool false, undef, undef, undef, undef, undef, undef, undef, undef, undef, undef, .bool false, .bool false, .int .i64 31, .bool true, .bool true, str [], str [], str [], .bool false, .bool false, .bool false] ?_ ?_
  · refine stpm ?_
    refine stpx (fun _ _ => ex_eqi rfl rfl _ rfl) ?_
    refine stpm ?_
    refine stps ?_
    refine stps ?_
    refine stps ?_
    refine stps ?_
    refine stps ?_
    refine stps ?_
    refine stps ?_
    refine stps ?_
    refine stps ?_
    refine stps ?_
    refine stpx (fun _ _ => ex_pick (r := false) rfl) ?_
    refine stpm ?_
    refine stpm ?_
    refine stpx (fun _ _ => ex_neqi rfl rfl _ rfl) ?_
    refine stpm ?_
    refine stpm ?_
    refine stpm ?_
    refine stpx (fun _ _ => ex_catL (a := []) (b := []) rfl rfl (by simp)) ?_
    refine stpx (fun _ _ => ex_neqL rfl rfl true (by simp)) ?_
    refine stpx (fun _ _ => ex_pick (r := true) rfl) ?_
    exact stpx (fun _ _ => ex_pick (r := false) rfl) .nil
  intro w49 hb49 HB52
  refine wp_cond_false rfl ?_
  refine wp_skip ?_
  refine th_r ?_
  refine rh0 HB52 [93, 94, 95, 96, 97, 98, 99, 100, 101, 102, 103, 104, 105, 106, 107, 108, 109, 110, 111, 112, 113, 114, 115, 116, 4] [.int .i64 30, .bool false, .bool false, undef, undef, undef, undef, .bool false, .bool false, undef, undef, undef, undef, .bool false, .bool false, .int .i64 30, .bool true, .bool true, str [], str [], str [], .bool true, .bool true, .bool true, .bool true] ?_ ?_
  · refine stpm ?_
    refine stpx (fun _ _ => ex_eqi rfl rfl _ rfl) ?_
    refine stpm ?_
    refine stps ?_
    refine stps ?_
    refine stps ?_
    refine stps ?_
    refine stpx (fun _ _ => ex_pick (r := false) rfl) ?_
    refine stpm ?_
    refine stps ?_
    refine stps ?_
    refine stps ?_
    refine stps ?_
    refine stpx (fun _ _ => ex_pick (r := false) rfl) ?_
    refine stpm ?_
    refine stpm ?_
    refine stpx (fun _ _ => ex_neqi rfl rfl _ rfl) ?_
    refine stpm ?_
    refine stpm ?_
    refine stpm ?_
    refine stpx (fun _ _ => ex_catL (a := []) (b := []) rfl rfl (by simp)) ?_
    refine stpx (fun _ _ => ex_eqL rfl rfl true (by simp)) ?_
    refine stpx (fun _ _ => ex_pick (r := true) rfl) ?_
    refine stpx (fun _ _ => ex_pick (r := false) rfl) ?_
    exact stpa .nil
  intro w53 hb53 HB56
  exact wpr (ret1 Tryz.results3 (res_tmp rfl)) HB56
theorem ptWr_oo (x : Nat) (y : Nat) (i : Bool) (p : Nat) (q : Nat) (r : Nat) (s : Nat) (j : Bool) (hP1 : CI 6 #[sv [.n 6 x, .n 6 y, .b i]] (.tuple #[str [], .int .i64 31])) (hW1 : CI 7 #[sv [.n 6 x, .n 6 y, .b i]] (.tuple #[str [], .int .i64 31])) (hR1 : CI 10 #[sv [.n 6 x, .n 6 y, .b i]] (.bool true)) (hG1 : CI 11 #[sv [.n 6 x, .n 6 y, .b i]] (.bool false)) (hP2 : CI 8 #[sv [.n 6 p, .n 6 q, .n 6 r, .n 6 s, .b j]] (.tuple #[str [], .int .i64 31])) (hW2 : CI 9 #[sv [.n 6 p, .n 6 q, .n 6 r, .n 6 s, .b j]] (.tuple #[str [], .int .i64 31])) (hR2 : CI 12 #[sv [.n 6 p, .n 6 q, .n 6 r, .n 6 s, .b j]] (.bool true)) (hG2 : CI 13 #[sv [.n 6 p, .n 6 q, .n 6 r, .n 6 s, .b j]] (.bool false)) : CI 3 #[sv [.n 6 x, .n 6 y, .b i], sv [.n 6 p, .n 6 q, .n 6 r, .n 6 s, .b j]] (.bool true) := fun w => by
  go_enter Tryz.func3, Tryz.ntmps3
  refine rh2 (brf w) 26 0 [.n 6 x, .n 6 y, .b i] 30 1 [.n 6 p, .n 6 q, .n 6 r, .n 6 s, .b j] [2, 3, 4] (fun γ => [pz (γ 0), pz (γ 1), .bool false]) ?_ ?_
  · refine stpb 0 (fun γ w h => ex_boxs (l := [.n 6 x, .n 6 y, .b i]) rfl) ?_
    refine stpb 1 (fun γ w h => ex_boxs (l := [.n 6 p, .n 6 q, .n 6 r, .n 6 s, .b j]) rfl) ?_
    exact stpa .nil
  intro γ1 w1 hb1 A2 A3 _ _ hn1 HB4
  refine rh0 HB4 [16, 17, 15, 18, 19, 5, 6] [sv [.n 6 x, .n 6 y, .b i], .tuple #[str [], .int .i64 31], .tuple #[str [], .int .i64 31], str [], .int .i64 31, str [], .int .i64 31] ?_ ?_
  · refine stpv (fun γ w h => ex_loads 0 3 (m := [.n 6 x, .n 6 y, .b i]) flG1 rfl rfl (A2.keep h.out) rfl rfl) ?_
    refine stpk Tryz.call6 (fun w h => hP1 _) ?_
    refine stpm ?_
    refine stpx (fun _ _ => ex_extract rfl rfl) ?_
    refine stpx (fun _ _ => ex_extract rfl rfl) ?_
    refine stpa ?_
    exact stpa .nil
  intro w5 hb5 HB8
  have A6 := A2.keep hb5.out
  have A7 := A3.keep hb5.out
  refine rh0 HB8 [21, 22, 20, 23, 24, 7, 8] [sv [.n 6 x, .n 6 y, .b i], .tuple #[str [], .int .i64 31], .tuple #[str [], .int .i64 31], str [], .int .i64 31, str [], .int .i64 31] ?_ ?_
  · refine stpv (fun γ w h => ex_loads 0 3 (m := [.n 6 x, .n 6 y, .b i]) flG1 rfl rfl (A6.keep h.out) rfl rfl) ?_
    refine stpk Tryz.call7 (fun w h => hW1 _) ?_
    refine stpm ?_
    refine stpx (fun _ _ => ex_extract rfl rfl) ?_
    refine stpx (fun _ _ => ex_extract rfl rfl) ?_
    refine stpa ?_
    exact stpa .nil
  intro w9 hb9 HB12
  have A10 := A6.keep hb9.out
  have A11 := A7.keep hb9.out
  refine rh0 HB12 [26, 27, 25, 28, 29, 9, 10] [sv [.n 6 p, .n 6 q, .n 6 r, .n 6 s, .b j], .tuple #[str [], .int .i64 31], .tuple #[str [], .int .i64 31], str [], .int .i64 31, str [], .int .i64 31] ?_ ?_
  · refine stpv (fun γ w h => ex_loads 0 5 (m := [.n 6 p, .n 6 q, .n 6 r, .n 6 s, .b j]) flG2 rfl rfl (A11.keep h.out) rfl rfl) ?_
    refine stpk Tryz.call8 (fun w h => hP2 _) ?_
    refine stpm ?_
    refine stpx (fun _ _ => ex_extract rfl rfl) ?_
    refine stpx (fun _ _ => ex_extract rfl rfl) ?_
    refine stpa ?_
    exact stpa .nil
  intro w13 hb13 HB16
  have A14 := A10.keep hb13.out
  have A15 := A11.keep hb13.out
  refine rh0 HB16 [31, 32, 30, 33, 34, 11, 12] [sv [.n 6 p, .n 6 q, .n 6 r, .n 6 s, .b j], .tuple #[str [], .int .i64 31], .tuple #[str [], .int .i64 31], str [], .int .i64 31, str [], .int .i64 31] ?_ ?_
  · refine stpv (fun γ w h => ex_loads 0 5 (m := [.n 6 p, .n 6 q, .n 6 r, .n 6 s, .b j]) flG2 rfl rfl (A15.keep h.out) rfl rfl) ?_
    refine stpk Tryz.call9 (fun w h => hW2 _) ?_
    refine stpm ?_
    refine stpx (fun _ _ => ex_extract rfl rfl) ?_
    refine stpx (fun _ _ => ex_extract rfl rfl) ?_
    refine stpa ?_
    exact stpa .nil
  intro w17 hb17 HB20
  have A18 := A14.keep hb17.out
  have A19 := A15.keep hb17.out
  refine rh0 HB20 [13, 14] [.int .i64 0, .int .i64 0] ?_ ?_
  · refine stpa ?_
    exact stpa .nil
  intro w21 hb21 HB24
  have A22 := A18.keep hb21.out
  have A23 := A19.keep hb21.out
  refine wp_seq ?_
  refine rh0 HB24 [35, 36, 37] [sv [.n 6 x, .n 6 y, .b i], .bool true, .bool false] ?_ ?_
  · refine stpv (fun γ w h => ex_loads 0 3 (m := [.n 6 x, .n 6 y, .b i]) flG1 rfl rfl (A22.keep h.out) rfl rfl) ?_
    refine stpk Tryz.call10 (fun w h => hR1 _) ?_
    exact stpx (fun _ _ => ex_not (r := true) rfl) .nil
  intro w25 hb25 HB28
  have A26 := A22.keep hb25.out
  have A27 := A23.keep hb25.out
  refine wp_cond_false rfl ?_
  refine rh0 HB28 [38, 39, 40] [sv [.n 6 x, .n 6 y, .b i], .bool false, .bool true] ?_ ?_
  · refine stpv (fun γ w h => ex_loads 0 3 (m := [.n 6 x, .n 6 y, .b i]) flG1 rfl rfl (A26.keep h.out) rfl rfl) ?_
    refine stpk Tryz.call11 (fun w h => hG1 _) ?_
    exact stpx (fun _ _ => ex_not (r := false) rfl) .nil
  intro w29 hb29 HB32
  have A31 := A27.keep hb29.out
  refine wp_cond_true rfl ?_
  refine region_0 [13] [.int .i64 31] ?_ ?_
  · exact stpa .nil
  intro w33 hb33
  have A35 := A31.keep hb33.out
  have HB36 := below_then HB32 hb33.out
  refine th_r ?_
  refine wp_seq ?_
  refine rh0 HB36 [41, 42, 43] [sv [.n 6 p, .n 6 q, .n 6 r, .n 6 s, .b j], .bool true, .bool false] ?_ ?_
  · refine stpv (fun γ w h => ex_loads 0 5 (m := [.n 6 p, .n 6 q, .n 6 r, .n 6 s, .b j]) flG2 rfl rfl (A35.keep h.out) rfl rfl) ?_
    refine stpk Tryz.call12 (fun w h => hR2 _) ?_
    exact stpx (fun _ _ => ex_not (r := true) rfl) .nil
  intro w37 hb37 HB40
  have A39 := A35.keep hb37.out
  refine wp_cond_false rfl ?_
  refine rh0 HB40 [44, 45, 46] [sv [.n 6 p, .n 6 q, .n 6 r, .n 6 s, .b j], .bool false, .bool true] ?_ ?_
  · refine stpv (fun γ w h => ex_loads 0 5 (m := [.n 6 p, .n 6 q, .n 6 r, .n 6 s, .b j]) flG2 rfl rfl (A39.keep h.out) rfl rfl) ?_
    refine stpk Tryz.call13 (fun w h => hG2 _) ?_
    exact stpx (fun _ _ => ex_not (r := false) rfl) .nil
  intro w41 hb41 HB44
  refine wp_cond_true rfl ?_
  refine region_0 [14] [.int .i64 31] ?_ ?_
  · exact stpa .nil
  intro w45 hb45
  have HB48 := below_then HB44 hb45.out
  refine th_r ?_
  refine wp_seq ?_
  refine rh0 HB48 [47, 48, 49, 50, 51, 52, 53, 54, 55, 56, 57, 58, 59, 60, 61, 62, 63, 64, 65, 66, 67, 68] [.bool true, .bool false, .bool false, .int .i64 31, .int .i64 31, .bool false, .bool false, .bool false, .int .i64 31, .int .i64 31, .bool false, .bool false, .bool false, .int .i64 31, .int .i64 31, .bool false, .bool false, .bool false, .int .i64 31, .int .i64 31, .bool false, .bool false] ?_ ?_
  · refine stpk Tryz.call14 (fun w h => ptalive_v _) ?_
    refine stpx (fun _ _ => ex_not (r := true) rfl) ?_
    refine stpm ?_
    refine stpm ?_
    refine stpm ?_
    refine stpx (fun _ _ => ex_neqi rfl rfl _ rfl) ?_
    refine stpx (fun _ _ => ex_pick (r := false) rfl) ?_
    refine stpm ?_
    refine stpm ?_
    refine stpm ?_
    refine stpx (fun _ _ => ex_neqi rfl rfl _ rfl) ?_
    refine stpx (fun _ _ => ex_pick (r := false) rfl) ?_
    refine stpm ?_
    refine stpm ?_
    refine stpm ?_
    refine stpx (fun _ _ => ex_neqi rfl rfl _ rfl) ?_
    refine stpx (fun _ _ => ex_pick (r := false) rfl) ?_
    refine stpm ?_
    refine stpm ?_
    refine stpm ?_
    refine stpx (fun _ _ => ex_neqi rfl rfl _ rfl) ?_
    exact stpx (fun _ _ => ex_pick (r := false) rfl) .nil
  intro w49 hb49 HB52
  refine wp_cond_false rfl ?_
  refine wp_skip ?_
  refine th_r ?_
  refine wp_seq ?_
  refine rh0 HB52 [69, 70, 71, 72, 73, 74, 75, 76, 77, 78, 79, 80, 81, 82, 83, 84, 85, 86, 87, 88, 89, 90, 91, 92] [.int .i64 31, .bool false, .bool false, undef, undef, undef, undef, undef, undef, undef, undef, undef, undef, .bool false, .bool false, .int .i64 31, .bool true, .bool true, str [], str [], str [], .bool false, .bool false, .bool false] ?_ ?_
  · refine stpm ?_
    refine stpx (fun _ _ => ex_eqi rfl rfl _ rfl) ?_
    refine stpm ?_
    refine stps ?_
    refine stps ?_
    refine stps ?_
    refine stps ?_
    refine stps ?_
    refine stps ?_
    refine stps ?_
    refine stps ?_
    refine stps ?_
    refine stps ?_
    refine stpx (fun _ _ => ex_pick (r := false) rfl) ?_
    refine stpm ?_
    refine stpm ?_
    refine stpx (fun _ _ => ex_neqi rfl rfl _ rfl) ?_
    refine stpm ?_
    refine stpm ?_
    refine stpm ?_
    refine stpx (fun _ _ => ex_catL (a := []) (b := []) rfl rfl (by simp)) ?_
    refine stpx (fun _ _ => ex_neqL rfl rfl true (by simp)) ?_
    refine stpx (fun _ _ => ex_pick (r := true) rfl) ?_
    exact stpx (fun _ _ => ex_pick (r := false) rfl) .nil
  intro w53 hb53 HB56
  refine wp_cond_false rfl ?_
  refine wp_skip ?_
  refine th_r ?_
  refine rh0 HB56 [93, 94, 95, 96, 97, 98, 99, 100, 101, 102, 103, 104, 105, 106, 107, 108, 109, 110, 111, 112, 113, 114, 115, 116, 4] [.int .i64 31, .bool false, .bool false, undef, undef, undef, undef, .bool false, .bool false, undef, undef, undef, undef, .bool false, .bool false, .int .i64 31, .bool true, .bool true, str [], str [], str [], .bool true, .bool true, .bool true, .bool true] ?_ ?_
  · refine stpm ?_
    refine stpx (fun _ _ => ex_eqi rfl rfl _ rfl) ?_
    refine stpm ?_
    refine stps ?_
    refine stps ?_
    refine stps ?_
    refine stps ?_
    refine stpx (fun _ _ => ex_pick (r := false) rfl) ?_
    refine stpm ?_
    refine stps ?_
    refine stps ?_
    refine stps ?_
    refine stps ?_
    refine stpx (fun _ _ => ex_pick (r := false) rfl) ?_
    refine stpm ?_
    refine stpm ?_
    refine stpx (fun _ _ => ex_neqi rfl rfl _ rfl) ?_
    refine stpm ?_
    refine stpm ?_
    refine stpm ?_
    refine stpx (fun _ _ => ex_catL (a := []) (b := []) rfl rfl (by simp)) ?_
    refine stpx (fun _ _ => ex_eqL rfl rfl true (by simp)) ?_
    refine stpx (fun _ _ => ex_pick (r := true) rfl) ?_
    refine stpx (fun _ _ => ex_pick (r := false) rfl) ?_
    exact stpa .nil
  intro w57 hb57 HB60
  exact wpr (ret1 Tryz.results3 (res_tmp rfl)) HB60
theorem ptWr_ok (x : Nat) (y : Nat) (i : Bool) (p : Nat) (q : Nat) (r : Nat) (s : Nat) (j : Bool) (hP1 : CI 6 #[sv [.n 6 x, .n 6 y, .b i]] (.tuple #[str [], .int .i64 31])) (hW1 : CI 7 #[sv [.n 6 x, .n 6 y, .b i]] (.tuple #[str [], .int .i64 31])) (hR1 : CI 10 #[sv [.n 6 x, .n 6 y, .b i]] (.bool true)) (hG1 : CI 11 #[sv [.n 6 x, .n 6 y, .b i]] (.bool false)) (S2 T2 : List UInt8) (hP2 : CI 8 #[sv [.n 6 p, .n 6 q, .n 6 r, .n 6 s, .b j]] (.tuple #[str S2, .int .i64 0])) (hW2 : CI 9 #[sv [.n 6 p, .n 6 q, .n 6 r, .n 6 s, .b j]] (.tuple #[str T2, .int .i64 0])) (hR2 : CI 12 #[sv [.n 6 p, .n 6 q, .n 6 r, .n 6 s, .b j]] (.bool true)) (hG2 : CI 13 #[sv [.n 6 p, .n 6 q, .n 6 r, .n 6 s, .b j]] (.bool true)) (kA2 : CI 16 #[sv [.n 6 p, .n 6 q, .n 6 r, .n 6 s, .b j], .bool true] (str S2)) (kB2 : CI 16 #[sv [.n 6 p, .n 6 q, .n 6 r, .n 6 s, .b j], .bool false] (str T2)) : CI 3 #[sv [.n 6 x, .n 6 y, .b i], sv [.n 6 p, .n 6 q, .n 6 r, .n 6 s, .b j]] (.bool true) := fun w => by
  go_enter Tryz.func3, Tryz.ntmps3
  refine rh2 (brf w) 26 0 [.n 6 x, .n 6 y, .b i] 30 1 [.n 6 p, .n 6 q, .n 6 r, .n 6 s, .b j] [2, 3, 4] (fun γ => [pz (γ 0), pz (γ 1), .bool false]) ?_ ?_
  · refine stpb 0 (fun γ w h => ex_boxs (l := [.n 6 x, .n 6 y, .b i]) rfl) ?_
    refine stpb 1 (fun γ w h => ex_boxs (l := [.n 6 p, .n 6 q, .n 6 r, .n 6 s, .b j]) rfl) ?_
    exact stpa .nil
  intro γ1 w1 hb1 A2 A3 _ _ hn1 HB4
  refine rh0 HB4 [16, 17, 15, 18, 19, 5, 6] [sv [.n 6 x, .n 6 y, .b i], .tuple #[str [], .int .i64 31], .tuple #[str [], .int .i64 31], str [], .int .i64 31, str [], .int .i64 31] ?_ ?_
  · refine stpv (fun γ w h => ex_loads 0 3 (m := [.n 6 x, .n 6 y, .b i]) flG1 rfl rfl (A2.keep h.out) rfl rfl) ?_
    refine stpk Tryz.call6 (fun w h => hP1 _) ?_
    refine stpm ?_
    refine stpx (fun _ _ => ex_extract rfl rfl) ?_
    refine stpx (fun _ _ => ex_extract rfl rfl) ?_
    refine stpa ?_
    exact stpa .nil
  intro w5 hb5 HB8
  have A6 := A2.keep hb5.out
  have A7 := A3.keep hb5.out
  refine rh0 HB8 [21, 22, 20, 23, 24, 7, 8] [sv [.n 6 x, .n 6 y, .b i], .tuple #[str [], .int .i64 31], .tuple #[str [], .int .i64 31], str [], .int .i64 31, str [], .int .i64 31] ?_ ?_
  · refine stpv (fun γ w h => ex_loads 0 3 (m := [.n 6 x, .n 6 y, .b i]) flG1 rfl rfl (A6.keep h.out) rfl rfl) ?_
    refine stpk Tryz.call7 (fun w h => hW1 _) ?_
    refine stpm ?_
    refine stpx (fun _ _ => ex_extract rfl rfl) ?_
    refine stpx (fun _ _ => ex_extract rfl rfl) ?_
    refine stpa ?_
    exact stpa .nil
  intro w9 hb9 HB12
  have A10 := A6.keep hb9.out
  have A11 := A7.keep hb9.out
  refine rh0 HB12 [26, 27, 25, 28, 29, 9, 10] [sv [.n 6 p, .n 6 q, .n 6 r, .n 6 s, .b j], .tuple #[str S2, .int .i64 0], .tuple #[str S2, .int .i64 0], str S2, .int .i64 0, str S2, .int .i64 0] ?_ ?_
  · refine stpv (fun γ w h => ex_loads 0 5 (m := [.n 6 p, .n 6 q, .n 6 r, .n 6 s, .b j]) flG2 rfl rfl (A11.keep h.out) rfl rfl) ?_
    refine stpk Tryz.call8 (fun w h => hP2 _) ?_
    refine stpm ?_
    refine stpx (fun _ _ => ex_extract rfl rfl) ?_
    refine stpx (fun _ _ => ex_extract rfl rfl) ?_
    refine stpa ?_
    exact stpa .nil
  intro w13 hb13 HB16
  have A14 := A10.keep hb13.out
  have A15 := A11.keep hb13.out
  refine rh0 HB16 [31, 32, 30, 33, 34, 11, 12] [sv [.n 6 p, .n 6 q, .n 6 r, .n 6 s, .b j], .tuple #[str T2, .int .i64 0], .tuple #[str T2, .int .i64 0], str T2, .int .i64 0, str T2, .int .i64 0] ?_ ?_
  · refine stpv (fun γ w h => ex_loads 0 5 (m := [.n 6 p, .n 6 q, .n 6 r, .n 6 s, .b j]) flG2 rfl rfl (A15.keep h.out) rfl rfl) ?_
    refine stpk Tryz.call9 (fun w h => hW2 _) ?_
    refine stpm ?_
    refine stpx (fun _ _ => ex_extract rfl rfl) ?_
    refine stpx (fun _ _ => ex_extract rfl rfl) ?_
    refine stpa ?_
    exact stpa .nil
  intro w17 hb17 HB20
  have A18 := A14.keep hb17.out
  have A19 := A15.keep hb17.out
  refine rh0 HB20 [13, 14] [.int .i64 0, .int .i64 0] ?_ ?_
  · refine stpa ?_
    exact stpa .nil
  intro w21 hb21 HB24
  have A22 := A18.keep hb21.out
  have A23 := A19.keep hb21.out
  refine wp_seq ?_
  refine rh0 HB24 [35, 36, 37] [sv [.n 6 x, .n 6 y, .b i], .bool true, .bool false] ?_ ?_
  · refine stpv (fun γ w h => ex_loads 0 3 (m := [.n 6 x, .n 6 y, .b i]) flG1 rfl rfl (A22.keep h.out) rfl rfl) ?_
    refine stpk Tryz.call10 (fun w h => hR1 _) ?_
    exact stpx (fun _ _ => ex_not (r := true) rfl) .nil
  intro w25 hb25 HB28
  have A26 := A22.keep hb25.out
  have A27 := A23.keep hb25.out
  refine wp_cond_false rfl ?_
  refine rh0 HB28 [38, 39, 40] [sv [.n 6 x, .n 6 y, .b i], .bool false, .bool true] ?_ ?_
  · refine stpv (fun γ w h => ex_loads 0 3 (m := [.n 6 x, .n 6 y, .b i]) flG1 rfl rfl (A26.keep h.out) rfl rfl) ?_
    refine stpk Tryz.call11 (fun w h => hG1 _) ?_
    exact stpx (fun _ _ => ex_not (r := false) rfl) .nil
  intro w29 hb29 HB32
  have A31 := A27.keep hb29.out
  refine wp_cond_true rfl ?_
  refine region_0 [13] [.int .i64 31] ?_ ?_
  · exact stpa .nil
  intro w33 hb33
  have A35 := A31.keep hb33.out
  have HB36 := below_then HB32 hb33.out
  refine th_r ?_
  refine wp_seq ?_
  refine rh0 HB36 [41, 42, 43] [sv [.n 6 p, .n 6 q, .n 6 r, .n 6 s, .b j], .bool true, .bool false] ?_ ?_
  · refine stpv (fun γ w h => ex_loads 0 5 (m := [.n 6 p, .n 6 q, .n 6 r, .n 6 s, .b j]) flG2 rfl rfl (A35.keep h.out) rfl rfl) ?_
    refine stpk Tryz.call12 (fun w h => hR2 _) ?_
    exact stpx (fun _ _ => ex_not (r := true) rfl) .nil
  intro w37 hb37 HB40
  have A39 := A35.keep hb37.out
  refine wp_cond_false rfl ?_
  refine rh0 HB40 [44, 45, 46] [sv [.n 6 p, .n 6 q, .n 6 r, .n 6 s, .b j], .bool true, .bool false] ?_ ?_
  · refine stpv (fun γ w h => ex_loads 0 5 (m := [.n 6 p, .n 6 q, .n 6 r, .n 6 s, .b j]) flG2 rfl rfl (A39.keep h.out) rfl rfl) ?_
    refine stpk Tryz.call13 (fun w h => hG2 _) ?_
    exact stpx (fun _ _ => ex_not (r := true) rfl) .nil
  intro w41 hb41 HB44
  have A43 := A39.keep hb41.out
  refine wp_cond_false rfl ?_
  refine wp_skip ?_
  refine th_r ?_
  refine wp_seq ?_
  refine rh0 HB44 [47, 48, 49, 50, 51, 52, 53, 54, 55, 56, 57, 58, 59, 60, 61, 62, 63, 64, 65, 66, 67, 68] [.bool true, .bool false, .bool false, .int .i64 31, .int .i64 31, .bool false, .bool false, .bool false, .int .i64 31, .int .i64 31, .bool false, .bool false, .bool false, .int .i64 0, .int .i64 0, .bool false, .bool false, .bool false, .int .i64 0, .int .i64 0, .bool false, .bool false] ?_ ?_
  · refine stpk Tryz.call14 (fun w h => ptalive_v _) ?_
    refine stpx (fun _ _ => ex_not (r := true) rfl) ?_
    refine stpm ?_
    refine stpm ?_
    refine stpm ?_
    refine stpx (fun _ _ => ex_neqi rfl rfl _ rfl) ?_
    refine stpx (fun _ _ => ex_pick (r := false) rfl) ?_
    refine stpm ?_
    refine stpm ?_
    refine stpm ?_
    refine stpx (fun _ _ => ex_neqi rfl rfl _ rfl) ?_
    refine stpx (fun _ _ => ex_pick (r := false) rfl) ?_
    refine stpm ?_
    refine stpm ?_
    refine stpm ?_
    refine stpx (fun _ _ => ex_neqi rfl rfl _ rfl) ?_
    refine stpx (fun _ _ => ex_pick (r := false) rfl) ?_
    refine stpm ?_
    refine stpm ?_
    refine stpm ?_
    refine stpx (fun _ _ => ex_neqi rfl rfl _ rfl) ?_
    exact stpx (fun _ _ => ex_pick (r := false) rfl) .nil
  intro w45 hb45 HB48
  have A47 := A43.keep hb45.out
  refine wp_cond_false rfl ?_
  refine wp_skip ?_
  refine th_r ?_
  refine wp_seq ?_
  refine rh0 HB48 [69, 70, 71, 72, 73, 74, 75, 76, 77, 78, 79, 80, 81, 82, 83, 84, 85, 86, 87, 88, 89, 90, 91, 92] [.int .i64 31, .bool false, .bool false, undef, undef, undef, undef, undef, undef, undef, undef, undef, undef, .bool false, .bool false, .int .i64 31, .bool true, .bool true, str [], str [], str [], .bool false, .bool false, .bool false] ?_ ?_
  · refine stpm ?_
    refine stpx (fun _ _ => ex_eqi rfl rfl _ rfl) ?_
    refine stpm ?_
    refine stps ?_
    refine stps ?_
    refine stps ?_
    refine stps ?_
    refine stps ?_
    refine stps ?_
    refine stps ?_
    refine stps ?_
    refine stps ?_
    refine stps ?_
    refine stpx (fun _ _ => ex_pick (r := false) rfl) ?_
    refine stpm ?_
    refine stpm ?_
    refine stpx (fun _ _ => ex_neqi rfl rfl _ rfl) ?_
    refine stpm ?_
    refine stpm ?_
    refine stpm ?_
    refine stpx (fun _ _ => ex_catL (a := []) (b := []) rfl rfl (by simp)) ?_
    refine stpx (fun _ _ => ex_neqL rfl rfl true (by simp)) ?_
    refine stpx (fun _ _ => ex_pick (r := true) rfl) ?_
    exact stpx (fun _ _ => ex_pick (r := false) rfl) .nil
  intro w49 hb49 HB52
  have A51 := A47.keep hb49.out
  refine wp_cond_false rfl ?_
  refine wp_skip ?_
  refine th_r ?_
  refine rh0 HB52 [93, 94, 95, 96, 97, 98, 99, 100, 101, 102, 103, 104, 105, 106, 107, 108, 109, 110, 111, 112, 113, 114, 115, 116, 4] [.int .i64 0, .bool true, .bool true, str S2, sv [.n 6 p, .n 6 q, .n 6 r, .n 6 s, .b j], str S2, .bool true, .bool true, .bool true, str T2, sv [.n 6 p, .n 6 q, .n 6 r, .n 6 s, .b j], str T2, .bool true, .bool true, .bool true, undef, undef, undef, undef, undef, undef, undef, undef, .bool true, .bool true] ?_ ?_
  · refine stpm ?_
    refine stpx (fun _ _ => ex_eqi rfl rfl _ rfl) ?_
    refine stpm ?_
    refine stpm ?_
    refine stpv (fun γ w h => ex_loads 0 5 (m := [.n 6 p, .n 6 q, .n 6 r, .n 6 s, .b j]) flG2 rfl rfl (A51.keep h.out) rfl rfl) ?_
    refine stpk Tryz.call16 (fun w h => kA2 _) ?_
    refine stpx (fun _ _ => ex_eqL rfl rfl true (by simp)) ?_
    refine stpx (fun _ _ => ex_pick (r := true) rfl) ?_
    refine stpm ?_
    refine stpm ?_
    refine stpv (fun γ w h => ex_loads 0 5 (m := [.n 6 p, .n 6 q, .n 6 r, .n 6 s, .b j]) flG2 rfl rfl (A51.keep h.out) rfl rfl) ?_
    refine stpk Tryz.call16 (fun w h => kB2 _) ?_
    refine stpx (fun _ _ => ex_eqL rfl rfl true (by simp)) ?_
    refine stpx (fun _ _ => ex_pick (r := true) rfl) ?_
    refine stpm ?_
    refine stps ?_
    refine stps ?_
    refine stps ?_
    refine stps ?_
    refine stps ?_
    refine stps ?_
    refine stps ?_
    refine stps ?_
    refine stpx (fun _ _ => ex_pick (r := true) rfl) ?_
    exact stpa .nil
  intro w53 hb53 HB56
  exact wpr (ret1 Tryz.results3 (res_tmp rfl)) HB56
theorem ptWr_kn (x : Nat) (y : Nat) (i : Bool) (p : Nat) (q : Nat) (r : Nat) (s : Nat) (j : Bool) (S1 T1 : List UInt8) (hP1 : CI 6 #[sv [.n 6 x, .n 6 y, .b i]] (.tuple #[str S1, .int .i64 0])) (hW1 : CI 7 #[sv [.n 6 x, .n 6 y, .b i]] (.tuple #[str T1, .int .i64 0])) (hR1 : CI 10 #[sv [.n 6 x, .n 6 y, .b i]] (.bool true)) (hG1 : CI 11 #[sv [.n 6 x, .n 6 y, .b i]] (.bool true)) (kA1 : CI 15 #[sv [.n 6 x, .n 6 y, .b i], .bool true] (str S1)) (kB1 : CI 15 #[sv [.n 6 x, .n 6 y, .b i], .bool false] (str T1)) (hP2 : CI 8 #[sv [.n 6 p, .n 6 q, .n 6 r, .n 6 s, .b j]] (.tuple #[str [], .int .i64 30])) (hW2 : CI 9 #[sv [.n 6 p, .n 6 q, .n 6 r, .n 6 s, .b j]] (.tuple #[str [], .int .i64 30])) (hR2 : CI 12 #[sv [.n 6 p, .n 6 q, .n 6 r, .n 6 s, .b j]] (.bool false)) : CI 3 #[sv [.n 6 x, .n 6 y, .b i], sv [.n 6 p, .n 6 q, .n 6 r, .n 6 s, .b j]] (.bool true) := fun w => by
  go_enter Tryz.func3, Tryz.ntmps3
  refine rh2 (brf w) 26 0 [.n 6 x, .n 6 y, .b i] 30 1 [.n 6 p, .n 6 q, .n 6 r, .n 6 s, .b j] [2, 3, 4] (fun γ => [pz (γ 0), pz (γ 1), .bool false]) ?_ ?_
  · refine stpb 0 (fun γ w h => ex_boxs (l := [.n 6 x, .n 6 y, .b i]) rfl) ?_
    refine stpb 1 (fun γ w h => ex_boxs (l := [.n 6 p, .n 6 q, .n 6 r, .n 6 s, .b j]) rfl) ?_
    exact stpa .nil
  intro γ1 w1 hb1 A2 A3 _ _ hn1 HB4
  refine rh0 HB4 [16, 17, 15, 18, 19, 5, 6] [sv [.n 6 x, .n 6 y, .b i], .tuple #[str S1, .int .i64 0], .tuple #[str S1, .int .i64 0], str S1, .int .i64 0, str S1, .int .i64 0] ?_ ?_
  · refine stpv (fun γ w h => ex_loads 0 3 (m := [.n 6 x, .n 6 y, .b i]) flG1 rfl rfl (A2.keep h.out) rfl rfl) ?_
    refine stpk Tryz.call6 (fun w h => hP1 _) ?_
    refine stpm ?_
    refine stpx (fun _ _ => ex_extract rfl rfl) ?_
    refine stpx (fun _ _ => ex_extract rfl rfl) ?_
    refine stpa ?_
    exact stpa .nil
  intro w5 hb5 HB8
  have A6 := A2.keep hb5.out
  have A7 := A3.keep hb5.out
  refine rh0 HB8 [21, 22, 20, 23, 24, 7, 8] [sv [.n 6 x, .n 6 y, .b i], .tuple #[str T1, .int .i64 0], .tuple #[str T1, .int .i64 0], str T1, .int .i64 0, str T1, .int .i64 0] ?_ ?_
  · refine stpv (fun γ w h => ex_loads 0 3 (m := [.n 6 x, .n 6 y, .b i]) flG1 rfl rfl (A6.keep h.out) rfl rfl) ?_
    refine stpk Tryz.call7 (fun w h => hW1 _) ?_
    refine stpm ?_
    refine stpx (fun _ _ => ex_extract rfl rfl) ?_
    refine stpx (fun _ _ => ex_extract rfl rfl) ?_
    refine stpa ?_
    exact stpa .nil
  intro w9 hb9 HB12
  have A10 := A6.keep hb9.out
  have A11 := A7.keep hb9.out
  refine rh0 HB12 [26, 27, 25, 28, 29, 9, 10] [sv [.n 6 p, .n 6 q, .n 6 r, .n 6 s, .b j], .tuple #[str [], .int .i64 30], .tuple #[str [], .int .i64 30], str [], .int .i64 30, str [], .int .i64 30] ?_ ?_
  · refine stpv (fun γ w h => ex_loads 0 5 (m := [.n 6 p, .n 6 q, .n 6 r, .n 6 s, .b j]) flG2 rfl rfl (A11.keep h.out) rfl rfl) ?_
    refine stpk Tryz.call8 (fun w h => hP2 _) ?_
    refine stpm ?_
    refine stpx (fun _ _ => ex_extract rfl rfl) ?_
    refine stpx (fun _ _ => ex_extract rfl rfl) ?_
    refine stpa ?_
    exact stpa .nil
  intro w13 hb13 HB16
  have A14 := A10.keep hb13.out
  have A15 := A11.keep hb13.out
  refine rh0 HB16 [31, 32, 30, 33, 34, 11, 12] [sv [.n 6 p, .n 6 q, .n 6 r, .n 6 s, .b j], .tuple #[str [], .int .i64 30], .tuple #[str [], .int .i64 30], str [], .int .i64 30, str [], .int .i64 30] ?_ ?_
  · refine stpv (fun γ w h => ex_loads 0 5 (m := [.n 6 p, .n 6 q, .n 6 r, .n 6 s, .b j]) flG2 rfl rfl (A15.keep h.out) rfl rfl) ?_
    refine stpk Tryz.call9 (fun w h => hW2 _) ?_
    refine stpm ?_
    refine stpx (fun _ _ => ex_extract rfl rfl) ?_
    refine stpx (fun _ _ => ex_extract rfl rfl) ?_
    refine stpa ?_
    exact stpa .nil
  intro w17 hb17 HB20
  have A18 := A14.keep hb17.out
  have A19 := A15.keep hb17.out
  refine rh0 HB20 [13, 14] [.int .i64 0, .int .i64 0] ?_ ?_
  · refine stpa ?_
    exact stpa .nil
  intro w21 hb21 HB24
  have A22 := A18.keep hb21.out
  have A23 := A19.keep hb21.out
  refine wp_seq ?_
  refine rh0 HB24 [35, 36, 37] [sv [.n 6 x, .n 6 y, .b i], .bool true, .bool false] ?_ ?_
  · refine stpv (fun γ w h => ex_loads 0 3 (m := [.n 6 x, .n 6 y, .b i]) flG1 rfl rfl (A22.keep h.out) rfl rfl) ?_
    refine stpk Tryz.call10 (fun w h => hR1 _) ?_
    exact stpx (fun _ _ => ex_not (r := true) rfl) .nil
  intro w25 hb25 HB28
  have A26 := A22.keep hb25.out
  have A27 := A23.keep hb25.out
  refine wp_cond_false rfl ?_
  refine rh0 HB28 [38, 39, 40] [sv [.n 6 x, .n 6 y, .b i], .bool true, .bool false] ?_ ?_
  · refine stpv (fun γ w h => ex_loads 0 3 (m := [.n 6 x, .n 6 y, .b i]) flG1 rfl rfl (A26.keep h.out) rfl rfl) ?_
    refine stpk Tryz.call11 (fun w h => hG1 _) ?_
    exact stpx (fun _ _ => ex_not (r := true) rfl) .nil
  intro w29 hb29 HB32
  have A30 := A26.keep hb29.out
  have A31 := A27.keep hb29.out
  refine wp_cond_false rfl ?_
  refine wp_skip ?_
  refine th_r ?_
  refine wp_seq ?_
  refine rh0 HB32 [41, 42, 43] [sv [.n 6 p, .n 6 q, .n 6 r, .n 6 s, .b j], .bool false, .bool true] ?_ ?_
  · refine stpv (fun γ w h => ex_loads 0 5 (m := [.n 6 p, .n 6 q, .n 6 r, .n 6 s, .b j]) flG2 rfl rfl (A31.keep h.out) rfl rfl) ?_
    refine stpk Tryz.call12 (fun w h => hR2 _) ?_
    exact stpx (fun _ _ => ex_not (r := false) rfl) .nil
  intro w33 hb33 HB36
  have A34 := A30.keep hb33.out
  refine wp_cond_true rfl ?_
  refine region_0 [14] [.int .i64 30] ?_ ?_
  · exact stpa .nil
  intro w37 hb37
  have A38 := A34.keep hb37.out
  have HB40 := below_then HB36 hb37.out
  refine th_r ?_
  refine wp_seq ?_
  refine rh0 HB40 [47, 48, 49, 50, 51, 52, 53, 54, 55, 56, 57, 58, 59, 60, 61, 62, 63, 64, 65, 66, 67, 68] [.bool true, .bool false, .bool false, .int .i64 0, .int .i64 0, .bool false, .bool false, .bool false, .int .i64 0, .int .i64 0, .bool false, .bool false, .bool false, .int .i64 30, .int .i64 30, .bool false, .bool false, .bool false, .int .i64 30, .int .i64 30, .bool false, .bool false] ?_ ?_
  · refine stpk Tryz.call14 (fun w h => ptalive_v _) ?_
    refine stpx (fun _ _ => ex_not (r := true) rfl) ?_
    refine stpm ?_
    refine stpm ?_
    refine stpm ?_
    refine stpx (fun _ _ => ex_neqi rfl rfl _ rfl) ?_
    refine stpx (fun _ _ => ex_pick (r := false) rfl) ?_
    refine stpm ?_
    refine stpm ?_
    refine stpm ?_
    refine stpx (fun _ _ => ex_neqi rfl rfl _ rfl) ?_
    refine stpx (fun _ _ => ex_pick (r := false) rfl) ?_
    refine stpm ?_
    refine stpm ?_
    refine stpm ?_
    refine stpx (fun _ _ => ex_neqi rfl rfl _ rfl) ?_
    refine stpx (fun _ _ => ex_pick (r := false) rfl) ?_
    refine stpm ?_
    refine stpm ?_
    refine stpm ?_
    refine stpx (fun _ _ => ex_neqi rfl rfl _ rfl) ?_
    exact stpx (fun _ _ => ex_pick (r := false) rfl) .nil
  intro w41 hb41 HB44
  have A42 := A38.keep hb41.out
  refine wp_cond_false rfl ?_
  refine wp_skip ?_
  refine th_r ?_
  refine wp_seq ?_
  refine rh0 HB44 [69, 70, 71, 72, 73, 74, 75, 76, 77, 78, 79, 80, 81, 82, 83, 84, 85, 86, 87, 88, 89, 90, 91, 92] [.int .i64 0, .bool true, .bool true, str S1, sv [.n 6 x, .n 6 y, .b i], str S1, .bool false, .bool false, str T1, sv [.n 6 x, .n 6 y, .b i], str T1, .bool false, .bool false, .bool false, .bool false, .int .i64 0, .bool false, .bool false, undef, undef, undef, undef, .bool false, .bool false] ?_ ?_
  · refine stpm ?_
    refine stpx (fun _ _ => ex_eqi rfl rfl _ rfl) ?_
    refine stpm ?_
    refine stpm ?_
    refine stpv (fun γ w h => ex_loads 0 3 (m := [.n 6 x, .n 6 y, .b i]) flG1 rfl rfl (A42.keep h.out) rfl rfl) ?_
    refine stpk Tryz.call15 (fun w h => kA1 _) ?_
    refine stpx (fun _ _ => ex_neqL rfl rfl true (by simp)) ?_
    refine stpm ?_
    refine stpm ?_
    refine stpv (fun γ w h => ex_loads 0 3 (m := [.n 6 x, .n 6 y, .b i]) flG1 rfl rfl (A42.keep h.out) rfl rfl) ?_
    refine stpk Tryz.call15 (fun w h => kB1 _) ?_
    refine stpx (fun _ _ => ex_neqL rfl rfl true (by simp)) ?_
    refine stpx (fun _ _ => ex_pick (r := false) rfl) ?_
    refine stpx (fun _ _ => ex_pick (r := true) rfl) ?_
    refine stpm ?_
    refine stpm ?_
    refine stpx (fun _ _ => ex_neqi rfl rfl _ rfl) ?_
    refine stpm ?_
    refine stps ?_
    refine stps ?_
    refine stps ?_
    refine stps ?_
    refine stpx (fun _ _ => ex_pick (r := false) rfl) ?_
    exact stpx (fun _ _ => ex_pick (r := false) rfl) .nil
  intro w45 hb45 HB48
  refine wp_cond_false rfl ?_
  refine wp_skip ?_
  refine th_r ?_
  refine rh0 HB48 [93, 94, 95, 96, 97, 98, 99, 100, 101, 102, 103, 104, 105, 106, 107, 108, 109, 110, 111, 112, 113, 114, 115, 116, 4] [.int .i64 30, .bool false, .bool false, undef, undef, undef, undef, .bool false, .bool false, undef, undef, undef, undef, .bool false, .bool false, .int .i64 30, .bool true, .bool true, str [], str [], str [], .bool true, .bool true, .bool true, .bool true] ?_ ?_
  · refine stpm ?_
    refine stpx (fun _ _ => ex_eqi rfl rfl _ rfl) ?_
    refine stpm ?_
    refine stps ?_
    refine stps ?_
    refine stps ?_
    refine stps ?_
    refine stpx (fun _ _ => ex_pick (r := false) rfl) ?_
    refine stpm ?_
    refine stps ?_
    refine stps ?_
    refine stps ?_
    refine stps ?_
    refine stpx (fun _ _ => ex_pick (r := false) rfl) ?_
    refine stpm ?_
    refine stpm ?_
    refine stpx (fun _ _ => ex_neqi rfl rfl _ rfl) ?_
    refine stpm ?_
    refine stpm ?_
    refine stpm ?_
    refine stpx (fun _ _ => ex_catL (a := []) (b := []) rfl rfl (by simp)) ?_
    refine stpx (fun _ _ => ex_eqL rfl rfl true (by simp)) ?_
    refine stpx (fun _ _ => ex_pick (r := true) rfl) ?_
    refine stpx (fun _ _ => ex_pick (r := false) rfl) ?_
    exact stpa .nil
  intro w49 hb49 HB52
  exact wpr (ret1 Tryz.results3 (res_tmp rfl)) HB52
theorem ptWr_ko (x : Nat) (y : Nat) (i : Bool) (p : Nat) (q : Nat) (r : Nat) (s : Nat) (j : Bool) (S1 T1 : List UInt8) (hP1 : CI 6 #[sv [.n 6 x, .n 6 y, .b i]] (.tuple #[str S1, .int .i64 0])) (hW1 : CI 7 #[sv [.n 6 x, .n 6 y, .b i]] (.tuple #[str T1, .int .i64 0])) (hR1 : CI 10 #[sv [.n 6 x, .n 6 y, .b i]] (.bool true)) (hG1 : CI 11 #[sv [.n 6 x, .n 6 y, .b i]] (.bool true)) (kA1 : CI 15 #[sv [.n 6 x, .n 6 y, .b i], .bool true] (str S1)) (kB1 : CI 15 #[sv [.n 6 x, .n 6 y, .b i], .bool false] (str T1)) (hP2 : CI 8 #[sv [.n 6 p, .n 6 q, .n 6 r, .n 6 s, .b j]] (.tuple #[str [], .int .i64 31])) (hW2 : CI 9 #[sv [.n 6 p, .n 6 q, .n 6 r, .n 6 s, .b j]] (.tuple #[str [], .int .i64 31])) (hR2 : CI 12 #[sv [.n 6 p, .n 6 q, .n 6 r, .n 6 s, .b j]] (.bool true)) (hG2 : CI 13 #[sv [.n 6 p, .n 6 q, .n 6 r, .n 6 s, .b j]] (.bool false)) : CI 3 #[sv [.n 6 x, .n 6 y, .b i], sv [.n 6 p, .n 6 q, .n 6 r, .n 6 s, .b j]] (.bool true) := fun w => by
  go_enter Tryz.func3, Tryz.ntmps3
  refine rh2 (brf w) 26 0 [.n 6 x, .n 6 y, .b i] 30 1 [.n 6 p, .n 6 q, .n 6 r, .n 6 s, .b j] [2, 3, 4] (fun γ => [pz (γ 0), pz (γ 1), .bool false]) ?_ ?_
  · refine stpb 0 (fun γ w h => ex_boxs (l := [.n 6 x, .n 6 y, .b i]) rfl) ?_
    refine stpb 1 (fun γ w h => ex_boxs (l := [.n 6 p, .n 6 q, .n 6 r, .n 6 s, .b j]) rfl) ?_
    exact stpa .nil
  intro γ1 w1 hb1 A2 A3 _ _ hn1 HB4
  refine rh0 HB4 [16, 17, 15, 18, 19, 5, 6] [sv [.n 6 x, .n 6 y, .b i], .tuple #[str S1, .int .i64 0], .tuple #[str S1, .int .i64 0], str S1, .int .i64 0, str S1, .int .i64 0] ?_ ?_
  · refine stpv (fun γ w h => ex_loads 0 3 (m := [.n 6 x, .n 6 y, .b i]) flG1 rfl rfl (A2.keep h.out) rfl rfl) ?_
    refine stpk Tryz.call6 (fun w h => hP1 _) ?_
    refine stpm ?_
    refine stpx (fun _ _ => ex_extract rfl rfl) ?_
    refine stpx (fun _ _ => ex_extract rfl rfl) ?_
    refine stpa ?_
    exact stpa .nil
  intro w5 hb5 HB8
  have A6 := A2.keep hb5.out
  have A7 := A3.keep hb5.out
  refine rh0 HB8 [21, 22, 20, 23, 24, 7, 8] [sv [.n 6 x, .n 6 y, .b i], .tuple #[str T1, .int .i64 0], .tuple #[str T1, .int .i64 0], str T1, .int .i64 0, str T1, .int .i64 0] ?_ ?_
  · refine stpv (fun γ w h => ex_loads 0 3 (m := [.n 6 x, .n 6 y, .b i]) flG1 rfl rfl (A6.keep h.out) rfl rfl) ?_
    refine stpk Tryz.call7 (fun w h => hW1 _) ?_
    refine stpm ?_
    refine stpx (fun _ _ => ex_extract rfl rfl) ?_
    refine stpx (fun _ _ => ex_extract rfl rfl) ?_
    refine stpa ?_
    exact stpa .nil
  intro w9 hb9 HB12
  have A10 := A6.keep hb9.out
  have A11 := A7.keep hb9.out
  refine rh0 HB12 [26, 27, 25, 28, 29, 9, 10] [sv [.n 6 p, .n 6 q, .n 6 r, .n 6 s, .b j], .tuple #[str [], .int .i64 31], .tuple #[str [], .int .i64 31], str [], .int .i64 31, str [], .int .i64 31] ?_ ?_
  · refine stpv (fun γ w h => ex_loads 0 5 (m := [.n 6 p, .n 6 q, .n 6 r, .n 6 s, .b j]) flG2 rfl rfl (A11.keep h.out) rfl rfl) ?_
    refine stpk Tryz.call8 (fun w h => hP2 _) ?_
    refine stpm ?_
    refine stpx (fun _ _ => ex_extract rfl rfl) ?_
    refine stpx (fun _ _ => ex_extract rfl rfl) ?_
    refine stpa ?_
    exact stpa .nil
  intro w13 hb13 HB16
  have A14 := A10.keep hb13.out
  have A15 := A11.keep hb13.out
  refine rh0 HB16 [31, 32, 30, 33, 34, 11, 12] [sv [.n 6 p, .n 6 q, .n 6 r, .n 6 s, .b j], .tuple #[str [], .int .i64 31], .tuple #[str [], .int .i64 31], str [], .int .i64 31, str [], .int .i64 31] ?_ ?_
  · refine stpv (fun γ w h => ex_loads 0 5 (m := [.n 6 p, .n 6 q, .n 6 r, .n 6 s, .b j]) flG2 rfl rfl (A15.keep h.out) rfl rfl) ?_
    refine stpk Tryz.call9 (fun w h => hW2 _) ?_
    refine stpm ?_
    refine stpx (fun _ _ => ex_extract rfl rfl) ?_
    refine stpx (fun _ _ => ex_extract rfl rfl) ?_
    refine stpa ?_
    exact stpa .nil
  intro w17 hb17 HB20
  have A18 := A14.keep hb17.out
  have A19 := A15.keep hb17.out
  refine rh0 HB20 [13, 14] [.int .i64 0, .int .i64 0] ?_ ?_
  · refine stpa ?_
    exact stpa .nil
  intro w21 hb21 HB24
  have A22 := A18.keep hb21.out
  have A23 := A19.keep hb21.out
  refine wp_seq ?_
  refine rh0 HB24 [35, 36, 37] [sv [.n 6 x, .n 6 y, .b i], .bool true, .bool false] ?_ ?_
  · refine stpv (fun γ w h => ex_loads 0 3 (m := [.n 6 x, .n 6 y, .b i]) flG1 rfl rfl (A22.keep h.out) rfl rfl) ?_
    refine stpk Tryz.call10 (fun w h => hR1 _) ?_
    exact stpx (fun _ _ => ex_not (r := true) rfl) .nil
  intro w25 hb25 HB28
  have A26 := A22.keep hb25.out
  have A27 := A23.keep hb25.out
  refine wp_cond_false rfl ?_
  refine rh0 HB28 [38, 39, 40] [sv [.n 6 x, .n 6 y, .b i], .bool true, .bool false] ?_ ?_
  · refine stpv (fun γ w h => ex_loads 0 3 (m := [.n 6 x, .n 6 y, .b i]) flG1 rfl rfl (A26.keep h.out) rfl rfl) ?_
    refine stpk Tryz.call11 (fun w h => hG1 _) ?_
    exact stpx (fun _ _ => ex_not (r := true) rfl) .nil
  intro w29 hb29 HB32
  have A30 := A26.keep hb29.out
  have A31 := A27.keep hb29.out
  refine wp_cond_false rfl ?_
  refine wp_skip ?_
  refine th_r ?_
  refine wp_seq ?_
  refine rh0 HB32 [41, 42, 43] [sv [.n 6 p, .n 6 q, .n 6 r, .n 6 s, .b j], .bool true, .bool false] ?_ ?_
  · refine stpv (fun γ w h => ex_loads 0 5 (m := [.n 6 p, .n 6 q, .n 6 r, .n 6 s, .b j]) flG2 rfl rfl (A31.keep h.out) rfl rfl) ?_
    refine stpk Tryz.call12 (fun w h => hR2 _) ?_
    exact stpx (fun _ _ => ex_not (r := true) rfl) .nil
  intro w33 hb33 HB36
  have A34 := A30.keep hb33.out
  have A35 := A31.keep hb33.out
  refine wp_cond_false rfl ?_
  refine rh0 HB36 [44, 45, 46] [sv [.n 6 p, .n 6 q, .n 6 r, .n 6 s, .b j], .bool false, .bool true] ?_ ?_
  · refine stpv (fun γ w h => ex_loads 0 5 (m := [.n 6 p, .n 6 q, .n 6 r, .n 6 s, .b j]) flG2 rfl rfl (A35.keep h.out) rfl rfl) ?_
    refine stpk Tryz.call13 (fun w h => hG2 _) ?_
    exact stpx (fun _ _ => ex_not (r := false) rfl) .nil
  intro w37 hb37 HB40
  have A38 := A34.keep hb37.out
  refine wp_cond_true rfl ?_
  refine region_0 [14] [.int .i64 31] ?_ ?_
  · exact stpa .nil
  intro w41 hb41
  have A42 := A38.keep hb41.out
  have HB44 := below_then HB40 hb41.out
  refine th_r ?_
  refine wp_seq ?_
  refine rh0 HB44 [47, 48, 49, 50, 51, 52, 53, 54, 55, 56, 57, 58, 59, 60, 61, 62, 63, 64, 65, 66, 67, 68] [.bool true, .bool false, .bool false, .int .i64 0, .int .i64 0, .bool false, .bool false, .bool false, .int .i64 0, .int .i64 0, .bool false, .bool false, .bool false, .int .i64 31, .int .i64 31, .bool false, .bool false, .bool false, .int .i64 31, .int .i64 31, .bool false, .bool false] ?_ ?_
  · refine stpk Tryz.call14 (fun w h => ptalive_v _) ?_
    refine stpx (fun _ _ => ex_not (r := true) rfl) ?_
    refine stpm ?_
    refine stpm ?_
    refine stpm ?_
    refine stpx (fun _ _ => ex_neqi rfl rfl _ rfl) ?_
    refine stpx (fun _ _ => ex_pick (r := false) rfl) ?_
    refine stpm ?_
    refine stpm ?_
    refine stpm ?_
    refine stpx (fun _ _ => ex_neqi rfl rfl _ rfl) ?_
    refine stpx (fun _ _ => ex_pick (r := false) rfl) ?_
    refine stpm ?_
    refine stpm ?_
    refine stpm ?_
    refine stpx (fun _ _ => ex_neqi rfl rfl _ rfl) ?_
    refine stpx (fun _ _ => ex_pick (r := false) rfl) ?_
    refine stpm ?_
    refine stpm ?_
    refine stpm ?_
    refine stpx (fun _ _ => ex_neqi rfl rfl _ rfl) ?_
    exact stpx (fun _ _ => ex_pick (r := false) rfl) .nil
  intro w45 hb45 HB48
  have A46 := A42.keep hb45.out
  refine wp_cond_false rfl ?_
  refine wp_skip ?_
  refine th_r ?_
  refine wp_seq ?_
  refine rh0 HB48 [69, 70, 71, 72, 73, 74, 75, 76, 77, 78, 79, 80, 81, 82, 83, 84, 85, 86, 87, 88, 89, 90, 91, 92] [.int .i64 0, .bool true, .bool true, str S1, sv [.n 6 x, .n 6 y, .b i], str S1, .bool false, .bool false, str T1, sv [.n 6 x, .n 6 y, .b i], str T1, .bool false, .bool false, .bool false, .bool false, .int .i64 0, .bool false, .bool false, undef, undef, undef, undef, .bool false, .bool false] ?_ ?_
  · refine stpm ?_
    refine stpx (fun _ _ => ex_eqi rfl rfl _ rfl) ?_
    refine stpm ?_
    refine stpm ?_
    refine stpv (fun γ w h => ex_loads 0 3 (m := [.n 6 x, .n 6 y, .b i]) flG1 rfl rfl (A46.keep h.out) rfl rfl) ?_
    refine stpk Tryz.call15 (fun w h => kA1 _) ?_
    refine stpx (fun _ _ => ex_neqL rfl rfl true (by simp)) ?_
    refine stpm ?_
    refine stpm ?_
    refine stpv (fun γ w h => ex_loads 0 3 (m := [.n 6 x, .n 6 y, .b i]) flG1 rfl rfl (A46.keep h.out) rfl rfl) ?_
    refine stpk Tryz.call15 (fun w h => kB1 _) ?_
    refine stpx (fun _ _ => ex_neqL rfl rfl true (by simp)) ?_
    refine stpx (fun _ _ => ex_pick (r := false) rfl) ?_
    refine stpx (fun _ _ => ex_pick (r := true) rfl) ?_
    refine stpm ?_
    refine stpm ?_
    refine stpx (fun _ _ => ex_neqi rfl rfl _ rfl) ?_
    refine stpm ?_
    refine stps ?_
    refine stps ?_
    refine stps ?_
    refine stps ?_
    refine stpx (fun _ _ => ex_pick (r := false) rfl) ?_
    exact stpx (fun _ _ => ex_pick (r := false) rfl) .nil
  intro w49 hb49 HB52
  refine wp_cond_false rfl ?_
  refine wp_skip ?_
  refine th_r ?_
  refine rh0 HB52 [93, 94, 95, 96, 97, 98, 99, 100, 101, 102, 103, 104, 105, 106, 107, 108, 109, 110, 111, 112, 113, 114, 115, 116, 4] [.int .i64 31, .bool false, .bool false, undef, undef, undef, undef, .bool false, .bool false, undef, undef, undef, undef, .bool false, .bool false, .int .i64 31, .bool true, .bool true, str [], str [], str [], .bool true, .bool true, .bool true, .bool true] ?_ ?_
  · refine stpm ?_
    refine stpx (fun _ _ => ex_eqi rfl rfl _ rfl) ?_
    refine stpm ?_
    refine stps ?_
    refine stps ?_
    refine stps ?_
    refine stps ?_
    refine stpx (fun _ _ => ex_pick (r := false) rfl) ?_
    refine stpm ?_
    refine stps ?_
    refine stps ?_
    refine stps ?_
    refine stps ?_
    refine stpx (fun _ _ => ex_pick (r := false) rfl) ?_
    refine stpm ?_
    refine stpm ?_
    refine stpx (fun _ _ => ex_neqi rfl rfl _ rfl) ?_
    refine stpm ?_
    refine stpm ?_
    refine stpm ?_
    refine stpx (fun _ _ => ex_catL (a := []) (b := []) rfl rfl (by simp)) ?_
    refine stpx (fun _ _ => ex_eqL rfl rfl true (by simp)) ?_
    refine stpx (fun _ _ => ex_pick (r := true) rfl) ?_
    refine stpx (fun _ _ => ex_pick (r := false) rfl) ?_
    exact stpa .nil
  intro w53 hb53 HB56
  exact wpr (ret1 Tryz.results3 (res_tmp rfl)) HB56
theorem ptWr_kk (x : Nat) (y : Nat) (i : Bool) (p : Nat) (q : Nat) (r : Nat) (s : Nat) (j : Bool) (S1 T1 : List UInt8) (hP1 : CI 6 #[sv [.n 6 x, .n 6 y, .b i]] (.tuple #[str S1, .int .i64 0])) (hW1 : CI 7 #[sv [.n 6 x, .n 6 y, .b i]] (.tuple #[str T1, .int .i64 0])) (hR1 : CI 10 #[sv [.n 6 x, .n 6 y, .b i]] (.bool true)) (hG1 : CI 11 #[sv [.n 6 x, .n 6 y, .b i]] (.bool true)) (kA1 : CI 15 #[sv [.n 6 x, .n 6 y, .b i], .bool true] (str S1)) (kB1 : CI 15 #[sv [.n 6 x, .n 6 y, .b i], .bool false] (str T1)) (S2 T2 : List UInt8) (hP2 : CI 8 #[sv [.n 6 p, .n 6 q, .n 6 r, .n 6 s, .b j]] (.tuple #[str S2, .int .i64 0])) (hW2 : CI 9 #[sv [.n 6 p, .n 6 q, .n 6 r, .n 6 s, .b j]] (.tuple #[str T2, .int .i64 0])) (hR2 : CI 12 #[sv [.n 6 p, .n 6 q, .n 6 r, .n 6 s, .b j]] (.bool true)) (hG2 : CI 13 #[sv [.n 6 p, .n 6 q, .n 6 r, .n 6 s, .b j]] (.bool true)) (kA2 : CI 16 #[sv [.n 6 p, .n 6 q, .n 6 r, .n 6 s, .b j], .bool true] (str S2)) (kB2 : CI 16 #[sv [.n 6 p, .n 6 q, .n 6 r, .n 6 s, .b j], .bool false] (str T2)) : CI 3 #[sv [.n 6 x, .n 6 y, .b i], sv [.n 6 p, .n 6 q, .n 6 r, .n 6 s, .b j]] (.bool true) := fun w => by
  go_enter Tryz.func3, Tryz.ntmps3
  refine rh2 (brf w) 26 0 [.n 6 x, .n 6 y, .b i] 30 1 [.n 6 p, .n 6 q, .n 6 r, .n 6 s, .b j] [2, 3, 4] (fun γ => [pz (γ 0), pz (γ 1), .bool false]) ?_ ?_
  · refine stpb 0 (fun γ w h => ex_boxs (l := [.n 6 x, .n 6 y, .b i]) rfl) ?_
    refine stpb 1 (fun γ w h => ex_boxs (l := [.n 6 p, .n 6 q, .n 6 r, .n 6 s, .b j]) rfl) ?_
    exact stpa .nil
  intro γ1 w1 hb1 A2 A3 _ _ hn1 HB4
  refine rh0 HB4 [16, 17, 15, 18, 19, 5, 6] [sv [.n 6 x, .n 6 y, .b i], .tuple #[str S1, .int .i64 0], .tuple #[str S1, .int .i64 0], str S1, .int .i64 0, str S1, .int .i64 0] ?_ ?_
  · refine stpv (fun γ w h => ex_loads 0 3 (m := [.n 6 x, .n 6 y, .b i]) flG1 rfl rfl (A2.keep h.out) rfl rfl) ?_
    refine stpk Tryz.call6 (fun w h => hP1 _) ?_
    refine stpm ?_
    refine stpx (fun _ _ => ex_extract rfl rfl) ?_
    refine stpx (fun _ _ => ex_extract rfl rfl) ?_
    refine stpa ?_
    exact stpa .nil
  intro w5 hb5 HB8
  have A6 := A2.keep hb5.out
  have A7 := A3.keep hb5.out
  refine rh0 HB8 [21, 22, 20, 23, 24, 7, 8] [sv [.n 6 x, .n 6 y, .b i], .tuple #[str T1, .int .i64 0], .tuple #[str T1, .int .i64 0], str T1, .int .i64 0, str T1, .int .i64 0] ?_ ?_
  · refine stpv (fun γ w h => ex_loads 0 3 (m := [.n 6 x, .n 6 y, .b i]) flG1 rfl rfl (A6.keep h.out) rfl rfl) ?_
    refine stpk Tryz.call7 (fun w h => hW1 _) ?_
    refine stpm ?_
    refine stpx (fun _ _ => ex_extract rfl rfl) ?_
    refine stpx (fun _ _ => ex_extract rfl rfl) ?_
    refine stpa ?_
    exact stpa .nil
  intro w9 hb9 HB12
  have A10 := A6.keep hb9.out
  have A11 := A7.keep hb9.out
  refine rh0 HB12 [26, 27, 25, 28, 29, 9, 10] [sv [.n 6 p, .n 6 q, .n 6 r, .n 6 s, .b j], .tuple #[str S2, .int .i64 0], .tuple #[str S2, .int .i64 0], str S2, .int .i64 0, str S2, .int .i64 0] ?_ ?_
  · refine stpv (fun γ w h => ex_loads 0 5 (m := [.n 6 p, .n 6 q, .n 6 r, .n 6 s, .b j]) flG2 rfl rfl (A11.keep h.out) rfl rfl) ?_
    refine stpk Tryz.call8 (fun w h => hP2 _) ?_
    refine stpm ?_
    refine stpx (fun _ _ => ex_extract rfl rfl) ?_
    refine stpx (fun _ _ => ex_extract rfl rfl) ?_
    refine stpa ?_
    exact stpa .nil
  intro w13 hb13 HB16
  have A14 := A10.keep hb13.out
  have A15 := A11.keep hb13.out
  refine rh0 HB16 [31, 32, 30, 33, 34, 11, 12] [sv [.n 6 p, .n 6 q, .n 6 r, .n 6 s, .b j], .tuple #[str T2, .int .i64 0], .tuple #[str T2, .int .i64 0], str T2, .int .i64 0, str T2, .int .i64 0] ?_ ?_
  · refine stpv (fun γ w h => ex_loads 0 5 (m := [.n 6 p, .n 6 q, .n 6 r, .n 6 s, .b j]) flG2 rfl rfl (A15.keep h.out) rfl rfl) ?_
    refine stpk Tryz.call9 (fun w h => hW2 _) ?_
    refine stpm ?_
    refine stpx (fun _ _ => ex_extract rfl rfl) ?_
    refine stpx (fun _ _ => ex_extract rfl rfl) ?_
    refine stpa ?_
    exact stpa .nil
  intro w17 hb17 HB20
  have A18 := A14.keep hb17.out
  have A19 := A15.keep hb17.out
  refine rh0 HB20 [13, 14] [.int .i64 0, .int .i64 0] ?_ ?_
  · refine stpa ?_
    exact stpa .nil
  intro w21 hb21 HB24
  have A22 := A18.keep hb21.out
  have A23 := A19.keep hb21.out
  refine wp_seq ?_
  refine rh0 HB24 [35, 36, 37] [sv [.n 6 x, .n 6 y, .b i], .bool true, .bool false] ?_ ?_
  · refine stpv (fun γ w h => ex_loads 0 3 (m := [.n 6 x, .n 6 y, .b i]) flG1 rfl rfl (A22.keep h.out) rfl rfl) ?_
    refine stpk Tryz.call10 (fun w h => hR1 _) ?_
    exact stpx (fun _ _ => ex_not (r := true) rfl) .nil
  intro w25 hb25 HB28
  have A26 := A22.keep hb25.out
  have A27 := A23.keep hb25.out
  refine wp_cond_false rfl ?_
  refine rh0 HB28 [38, 39, 40] [sv [.n 6 x, .n 6 y, .b i], .bool true, .bool false] ?_ ?_
  · refine stpv (fun γ w h => ex_loads 0 3 (m := [.n 6 x, .n 6 y, .b i]) flG1 rfl rfl (A26.keep h.out) rfl rfl) ?_
    refine stpk Tryz.call11 (fun w h => hG1 _) ?_
    exact stpx (fun _ _ => ex_not (r := true) rfl) .nil
  intro w29 hb29 HB32
  have A30 := A26.keep hb29.out
  have A31 := A27.keep hb29.out
  refine wp_cond_false rfl ?_
  refine wp_skip ?_
  refine th_r ?_
  refine wp_seq ?_
  refine rh0 HB32 [41, 42, 43] [sv [.n 6 p, .n 6 q, .n 6 r, .n 6 s, .b j], .bool true, .bool false] ?_ ?_
  · refine stpv (fun γ w h => ex_loads 0 5 (m := [.n 6 p, .n 6 q, .n 6 r, .n 6 s, .b j]) flG2 rfl rfl (A31.keep h.out) rfl rfl) ?_
    refine stpk Tryz.call12 (fun w h => hR2 _) ?_
    exact stpx (fun _ _ => ex_not (r := true) rfl) .nil
  intro w33 hb33 HB36
  have A34 := A30.keep hb33.out
  have A35 := A31.keep hb33.out
  refine wp_cond_false rfl ?_
  refine rh0 HB36 [44, 45, 46] [sv [.n 6 p, .n 6 q, .n 6 r, .n 6 s, .b j], .bool true, .bool false] ?_ ?_
  · refine stpv (fun γ w h => ex_loads 0 5 (m := [.n 6 p, .n 6 q, .n 6 r, .n 6 s, .b j]) flG2 rfl rfl (A35.keep h.out) rfl rfl) ?_
    refine stpk Tryz.call13 (fun w h => hG2 _) ?_
    exact stpx (fun _ _ => ex_not (r := true) rfl) .nil
  intro w37 hb37 HB40
  have A38 := A34.keep hb37.out
  have A39 := A35.keep hb37.out
  refine wp_cond_false rfl ?_
  refine wp_skip ?_
  refine th_r ?_
  refine wp_seq ?_
  refine rh0 HB40 [47, 48, 49, 50, 51, 52, 53, 54, 55, 56, 57, 58, 59, 60, 61, 62, 63, 64, 65, 66, 67, 68] [.bool true, .bool false, .bool false, .int .i64 0, .int .i64 0, .bool false, .bool false, .bool false, .int .i64 0, .int .i64 0, .bool false, .bool false, .bool false, .int .i64 0, .int .i64 0, .bool false, .bool false, .bool false, .int .i64 0, .int .i64 0, .bool false, .bool false] ?_ ?_
  · refine stpk Tryz.call14 (fun w h => ptalive_v _) ?_
    refine stpx (fun _ _ => ex_not (r := true) rfl) ?_
    refine stpm ?_
    refine stpm ?_
    refine stpm ?_
    refine stpx (fun _ _ => ex_neqi rfl rfl _ rfl) ?_
    refine stpx (fun _ _ => ex_pick (r := false) rfl) ?_
    refine stpm ?_
    refine stpm ?_
    refine stpm ?_
    refine stpx (fun _ _ => ex_neqi rfl rfl _ rfl) ?_
    refine stpx (fun _ _ => ex_pick (r := false) rfl) ?_
    refine stpm ?_
    refine stpm ?_
    refine stpm ?_
    refine stpx (fun _ _ => ex_neqi rfl rfl _ rfl) ?_
    refine stpx (fun _ _ => ex_pick (r := false) rfl) ?_
    refine stpm ?_
    refine stpm ?_
    refine stpm ?_
    refine stpx (fun _ _ => ex_neqi rfl rfl _ rfl) ?_
    exact stpx (fun _ _ => ex_pick (r := false) rfl) .nil
  intro w41 hb41 HB44
  have A42 := A38.keep hb41.out
  have A43 := A39.keep hb41.out
  refine wp_cond_false rfl ?_
  refine wp_skip ?_
  refine th_r ?_
  refine wp_seq ?_
  refine rh0 HB44 [69, 70, 71, 72, 73, 74, 75, 76, 77, 78, 79, 80, 81, 82, 83, 84, 85, 86, 87, 88, 89, 90, 91, 92] [.int .i64 0, .bool true, .bool true, str S1, sv [.n 6 x, .n 6 y, .b i], str S1, .bool false, .bool false, str T1, sv [.n 6 x, .n 6 y, .b i], str T1, .bool false, .bool false, .bool false, .bool false, .int .i64 0, .bool false, .bool false, undef, undef, undef, undef, .bool false, .bool false] ?_ ?_
  · refine stpm ?_
    refine stpx (fun _ _ => ex_eqi rfl rfl _ rfl) ?_
    refine stpm ?_
    refine stpm ?_
    refine stpv (fun γ w h => ex_loads 0 3 (m := [.n 6 x, .n 6 y, .b i]) flG1 rfl rfl (A42.keep h.out) rfl rfl) ?_
    refine stpk Tryz.call15 (fun w h => kA1 _) ?_
    refine stpx (fun _ _ => ex_neqL rfl rfl true (by simp)) ?_
    refine stpm ?_
    refine stpm ?_
    refine stpv (fun γ w h => ex_loads 0 3 (m := [.n 6 x, .n 6 y, .b i]) flG1 rfl rfl (A42.keep h.out) rfl rfl) ?_
    refine stpk Tryz.call15 (fun w h => kB1 _) ?_
    refine stpx (fun _ _ => ex_neqL rfl rfl true (by simp)) ?_
    refine stpx (fun _ _ => ex_pick (r := false) rfl) ?_
    refine stpx (fun _ _ => ex_pick (r := true) rfl) ?_
    refine stpm ?_
    refine stpm ?_
    refine stpx (fun _ _ => ex_neqi rfl rfl _ rfl) ?_
    refine stpm ?_
    refine stps ?_
    refine stps ?_
    refine stps ?_
    refine stps ?_
    refine stpx (fun _ _ => ex_pick (r := false) rfl) ?_
    exact stpx (fun _ _ => ex_pick (r := false) rfl) .nil
  intro w45 hb45 HB48
  have A47 := A43.keep hb45.out
  refine wp_cond_false rfl ?_
  refine wp_skip ?_
  refine th_r ?_
  refine rh0 HB48 [93, 94, 95, 96, 97, 98, 99, 100, 101, 102, 103, 104, 105, 106, 107, 108, 109, 110, 111, 112, 113, 114, 115, 116, 4] [.int .i64 0, .bool true, .bool true, str S2, sv [.n 6 p, .n 6 q, .n 6 r, .n 6 s, .b j], str S2, .bool true, .bool true, .bool true, str T2, sv [.n 6 p, .n 6 q, .n 6 r, .n 6 s, .b j], str T2, .bool true, .bool true, .bool true, undef, undef, undef, undef, undef, undef, undef, undef, .bool true, .bool true] ?_ ?_
  · refine stpm ?_
    refine stpx (fun _ _ => ex_eqi rfl rfl _ rfl) ?_
    refine stpm ?_
    refine stpm ?_
    refine stpv (fun γ w h => ex_loads 0 5 (m := [.n 6 p, .n 6 q, .n 6 r, .n 6 s, .b j]) flG2 rfl rfl (A47.keep h.out) rfl rfl) ?_
    refine stpk Tryz.call16 (fun w h => kA2 _) ?_
    refine stpx (fun _ _ => ex_eqL rfl rfl true (by simp)) ?_
    refine stpx (fun _ _ => ex_pick (r := true) rfl) ?_
    refine stpm ?_
    refine stpm ?_
    refine stpv (fun γ w h => ex_loads 0 5 (m := [.n 6 p, .n 6 q, .n 6 r, .n 6 s, .b j]) flG2 rfl rfl (A47.keep h.out) rfl rfl) ?_
    refine stpk Tryz.call16 (fun w h => kB2 _) ?_
    refine stpx (fun _ _ => ex_eqL rfl rfl true (by simp)) ?_
    refine stpx (fun _ _ => ex_pick (r := true) rfl) ?_
    refine stpm ?_
    refine stps ?_
    refine stps ?_
    refine stps ?_
    refine stps ?_
    refine stps ?_
    refine stps ?_
    refine stps ?_
    refine stps ?_
    refine stpx (fun _ _ => ex_pick (r := true) rfl) ?_
    exact stpa .nil
  intro w49 hb49 HB52
  exact wpr (ret1 Tryz.results3 (res_tmp rfl)) HB52
theorem ptWrites_v (x y : Nat) (i : Bool) (p q r s : Nat) (j : Bool) (hx : x < fpB) (hy : y < fpB) (hp : p < fpB) (hq : q < fpB) (hr : r < fpB) (hs : s < fpB) (w : World) : Calls Tryz.prog 3 #[sv [.n 6 x, .n 6 y, .b i], sv [.n 6 p, .n 6 q, .n 6 r, .n 6 s, .b j]] w (Is (.bool true) w) := by
  by_cases o1 : RawOk x y i
  · obtain ⟨P, rfl, rfl, rfl⟩ := o1
    by_cases g1 : EP.times C1 rN P = EP.zero
    · by_cases o2 : RawOk2 p q r s j
      · obtain ⟨Q, rfl, rfl, rfl, rfl, rfl⟩ := o2
        by_cases g2 : EP.times C2 rN Q = EP.zero
        · exact ptWr_kk _ _ _ _ _ _ _ _ _ _ (pt1put_q P g1) (pt1wide_q P g1) (r8Right_p P) (fun w => oneGroup_q P true (by simp [g1]) w) (r10Put1_true P) (r10Put1_false P) _ _ (pt2put_q Q g2) (pt2wide_q Q g2) (r9Right_p Q) (fun w => twoGroup_q Q true (by simp [g2]) w) (r10Put2_true Q) (r10Put2_false Q) w
        · exact ptWr_ko _ _ _ _ _ _ _ _ _ _ (pt1put_q P g1) (pt1wide_q P g1) (r8Right_p P) (fun w => oneGroup_q P true (by simp [g1]) w) (r10Put1_true P) (r10Put1_false P) (pt2put_out Q g2) (pt2wide_out Q g2) (r9Right_p Q) (fun w => twoGroup_q Q false (by simp [g2]) w) w
      · exact ptWr_kn _ _ _ _ _ _ _ _ _ _ (pt1put_q P g1) (pt1wide_q P g1) (r8Right_p P) (fun w => oneGroup_q P true (by simp [g1]) w) (r10Put1_true P) (r10Put1_false P) (pt2put_no p q r s j hp hq hr hs o2) (pt2wide_no p q r s j hp hq hr hs o2) (r9Right_no hp hq hr hs o2) w
    · by_cases o2 : RawOk2 p q r s j
      · obtain ⟨Q, rfl, rfl, rfl, rfl, rfl⟩ := o2
        by_cases g2 : EP.times C2 rN Q = EP.zero
        · exact ptWr_ok _ _ _ _ _ _ _ _ (pt1put_out P g1) (pt1wide_out P g1) (r8Right_p P) (fun w => oneGroup_q P false (by simp [g1]) w) _ _ (pt2put_q Q g2) (pt2wide_q Q g2) (r9Right_p Q) (fun w => twoGroup_q Q true (by simp [g2]) w) (r10Put2_true Q) (r10Put2_false Q) w
        · exact ptWr_oo _ _ _ _ _ _ _ _ (pt1put_out P g1) (pt1wide_out P g1) (r8Right_p P) (fun w => oneGroup_q P false (by simp [g1]) w) (pt2put_out Q g2) (pt2wide_out Q g2) (r9Right_p Q) (fun w => twoGroup_q Q false (by simp [g2]) w) w
      · exact ptWr_on _ _ _ _ _ _ _ _ (pt1put_out P g1) (pt1wide_out P g1) (r8Right_p P) (fun w => oneGroup_q P false (by simp [g1]) w) (pt2put_no p q r s j hp hq hr hs o2) (pt2wide_no p q r s j hp hq hr hs o2) (r9Right_no hp hq hr hs o2) w
  · by_cases o2 : RawOk2 p q r s j
    · obtain ⟨Q, rfl, rfl, rfl, rfl, rfl⟩ := o2
      by_cases g2 : EP.times C2 rN Q = EP.zero
      · exact ptWr_nk _ _ _ _ _ _ _ _ (pt1put_no x y i hx hy o1) (pt1wide_no x y i hx hy o1) (r8Right_no hx hy o1) _ _ (pt2put_q Q g2) (pt2wide_q Q g2) (r9Right_p Q) (fun w => twoGroup_q Q true (by simp [g2]) w) (r10Put2_true Q) (r10Put2_false Q) w
      · exact ptWr_no _ _ _ _ _ _ _ _ (pt1put_no x y i hx hy o1) (pt1wide_no x y i hx hy o1) (r8Right_no hx hy o1) (pt2put_out Q g2) (pt2wide_out Q g2) (r9Right_p Q) (fun w => twoGroup_q Q false (by simp [g2]) w) w
    · exact ptWr_nn _ _ _ _ _ _ _ _ (pt1put_no x y i hx hy o1) (pt1wide_no x y i hx hy o1) (r8Right_no hx hy o1) (pt2put_no p q r s j hp hq hr hs o2) (pt2wide_no p q r s j hp hq hr hs o2) (r9Right_no hp hq hr hs o2) w
end
end
end
end Go.Proofs.YtkkmekdhejhapaaGreat

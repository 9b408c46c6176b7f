/- What is proved here: the laws of package sum: that it is alive; slices of a point or two; the law SumPowers. -/
import Derived.Test.YtkkmekdhejhapaaGreatSum1
import Derived.Test.YtkkmekdhejhapaaGreatSumPow
namespace Go.Proofs.YtkkmekdhejhapaaGreat
section
open Go.RowKit Cv
set_option maxRecDepth 20000
set_option maxHeartbeats 4000000
theorem sumalive_v : CI 20 #[] (.bool true) := fun w => by
  go_enter Tryz.func20, Tryz.ntmps20
  refine rh0 (brf w) [0] [.bool false] ?_ ?_
  · exact stpa .nil
  intro w1 hb1 HB2
  refine rhc HB2 [(26, 4, 5, [.n 6 0, .n 6 0, .b false], [.n 6 (ax (((sumE1 (fun _ => Z1) (fun _ => 0) 0)).pt)), .n 6 (ay (((sumE1 (fun _ => Z1) (fun _ => 0) 0)).pt)), .b (ai (((sumE1 (fun _ => Z1) (fun _ => 0) 0)).pt))])] [4, 3, 5, 6, 1, 2] (fun γ => [.tuple #[sv [.n 6 (ax (((sumE1 (fun _ => Z1) (fun _ => 0) 0)).pt)), .n 6 (ay (((sumE1 (fun _ => Z1) (fun _ => 0) 0)).pt)), .b (ai (((sumE1 (fun _ => Z1) (fun _ => 0) 0)).pt))], .int .i64 0], .tuple #[sv [.n 6 (ax (((sumE1 (fun _ => Z1) (fun _ => 0) 0)).pt)), .n 6 (ay (((sumE1 (fun _ => Z1) (fun _ => 0) 0)).pt)), .b (ai (((sumE1 (fun _ => Z1) (fun _ => 0) 0)).pt))], .int .i64 0], sv [.n 6 (ax (((sumE1 (fun _ => Z1) (fun _ => 0) 0)).pt)), .n 6 (ay (((sumE1 (fun _ => Z1) (fun _ => 0) 0)).pt)), .b (ai (((sumE1 (fun _ => Z1) (fun _ => 0) 0)).pt))], .int .i64 0, pz (γ 0), .int .i64 0]) ?_ ?_
  · refine stpc (.tuple #[sv [.n 6 (ax (((sumE1 (fun _ => Z1) (fun _ => 0) 0)).pt)), .n 6 (ay (((sumE1 (fun _ => Z1) (fun _ => 0) 0)).pt)), .b (ai (((sumE1 (fun _ => Z1) (fun _ => 0) 0)).pt))], .int .i64 0]) (fun γ w => ex_call (vs := [.slice none 0 0, .slice none 0 0]) rfl Tryz.call55 rfl) (fun w h => sumFew1_p 0 (by decide) (fun _ => Z1) (fun _ => 0) none none 0 0 (by decide) (fun i hi => absurd hi (Nat.not_lt_zero i)) _ (Row.none _ _ _ _) (Row.none _ _ _ _)) ?_
    refine stpm ?_
    refine stpx (fun _ _ => ex_extract rfl rfl) ?_
    refine stpx (fun _ _ => ex_extract rfl rfl) ?_
    refine stpn 0 (fun γ w => ex_allocs (l := [.n 6 0, .n 6 0, .b false]) zG1) ?_
    refine stpq 0 0 3 flG1.2 ?_
    exact stpa .nil
  intro γ3 w3 hb3 hB3 _ HB5
  have A4 : SB 26 w3 (γ3 0) [.n 6 (ax (((sumE1 (fun _ => Z1) (fun _ => 0) 0)).pt)), .n 6 (ay (((sumE1 (fun _ => Z1) (fun _ => 0) 0)).pt)), .b (ai (((sumE1 (fun _ => Z1) (fun _ => 0) 0)).pt))] := (hB3 0 rfl).2
  refine rh0 HB5 [7, 8, 9, 10, 11, 12, 13, 14, 15, 16, 17, 18, 19, 20, 21, 0] [.int .i64 0, .bool true, .bool true, sv [.n 6 (ax (((sumE1 (fun _ => Z1) (fun _ => 0) 0)).pt)), .n 6 (ay (((sumE1 (fun _ => Z1) (fun _ => 0) 0)).pt)), .b (ai (((sumE1 (fun _ => Z1) (fun _ => 0) 0)).pt))], sv [.n 6 (ax Z1.pt), .n 6 (ay Z1.pt), .b (ai Z1.pt)], .bool true, .bool true, .bool true, sv [.n 6 (ax G1.pt), .n 6 (ay G1.pt), .b (ai G1.pt)], .bool true, .bool true, .bool true, sv [.n 6 (bx0 G2.pt), .n 6 (bx1 G2.pt), .n 6 (by0 G2.pt), .n 6 (by1 G2.pt), .b (bi G2.pt)], .bool true, .bool true, .bool true] ?_ ?_
  · refine stpm ?_
    refine stpx (fun _ _ => ex_eqi rfl rfl _ rfl) ?_
    refine stpm ?_
    refine stpv (fun γ w h => ex_loads 0 3 (m := [.n 6 (ax (((sumE1 (fun _ => Z1) (fun _ => 0) 0)).pt)), .n 6 (ay (((sumE1 (fun _ => Z1) (fun _ => 0) 0)).pt)), .b (ai (((sumE1 (fun _ => Z1) (fun _ => 0) 0)).pt))]) flG1 rfl rfl (A4.keep h.out) rfl rfl) ?_
    refine stpk Tryz.call42 (fun w h => oneZero_p _) ?_
    refine stpx (fun _ _ => ex_eqs gdG1 eqG1 rfl rfl rfl (shG1_of (ax_B (((sumE1 (fun _ => Z1) (fun _ => 0) 0)).pt)) (ay_B (((sumE1 (fun _ => Z1) (fun _ => 0) 0)).pt))) (shG1_of (ax_B Z1.pt) (ay_B Z1.pt)) true (onept_eq _ _ true (by simp [sumE1, Z1]))) ?_
    refine stpx (fun _ _ => ex_pick (r := true) rfl) ?_
    refine stpm ?_
    refine stpk Tryz.call43 (fun w h => oneGen_p _) ?_
    refine stpk Tryz.call25 (fun w h => oneRight_p G1 _) ?_
    refine stpx (fun _ _ => ex_pick (r := true) rfl) ?_
    refine stpm ?_
    refine stpk Tryz.call44 (fun w h => twoGen_p _) ?_
    refine stpk Tryz.call17 (fun w h => twoRight_p G2 _) ?_
    refine stpx (fun _ _ => ex_pick (r := true) rfl) ?_
    exact stpa .nil
  intro w6 hb6 HB8
  exact wpr (ret1 Tryz.results20 (res_tmp rfl)) HB8
end

section
open Go.RowKit Cv
set_option maxRecDepth 20000 in
set_option maxHeartbeats 4000000 in
theorem sumPowers_neg (x y : Nat) (i : Bool) (hx : x < fpB) (hy : y < fpB) (k : Nat) (n : Int) (h : n < 0) (w : World) :
    Calls Tryz.prog 5 #[sv [.n 6 x, .n 6 y, .b i], nv 4 [k], .int .i64 n] w (Is (.bool true) w) := by
  go_enter Tryz.func5, Tryz.ntmps5
  refine wp_seq (region_c 2 (fun j_ => match j_ with | 0 => 26 | _ => 49) (fun j_ => match j_ with | 0 => 0 | _ => 1) (fun j_ => match j_ with | 0 => 0 | _ => 1) (fun j_ => match j_ with | 0 => segs [.n 6 x, .n 6 y, .b i] | _ => segs [.n 4 k]) (fun j_ => match j_ with | 0 => segs [.n 6 x, .n 6 y, .b i] | _ => segs [.n 4 k]) [3, 4, 6] (fun γ => [.pointer (some ⟨γ 0, 0, none⟩), .pointer (some ⟨γ 1, 0, none⟩), .bool false]) ?_ ?_)
  · refine GSteps.cons (gm_box 0 rfl (fun _ => rfl) (fun _ _ => rfl) (fun γ w h => ex_boxs (l := [.n 6 x, .n 6 y, .b i]) rfl) rfl rfl rfl) ?_
    refine GSteps.cons (gm_box 1 rfl (fun _ => rfl) (fun _ _ => rfl) (fun γ w h => ex_boxsn (K := 4) (l := [k]) rfl) rfl rfl rfl) ?_
    refine stpx (fun _ _ => ex_assign _) ?_
    exact GSteps.nil
  intro γ1 w1 hb1 hB1 hn1
  refine th_r ?_
  have A2 : SB 26 w1 (γ1 0) [.n 6 x, .n 6 y, .b i] := (hB1 0 (by decide)).2
  have le2 := (hB1 0 (by decide)).1
  have A3 : SB 49 w1 (γ1 1) [.n 4 k] := (hB1 1 (by decide)).2
  have le3 := (hB1 1 (by decide)).1
  have HB4 := below_then (Below.refl w.heap.size w) hb1.out
  refine wp_seq ?_
  refine wp_seq (region_0 [13, 14, 15, 16, 17, 18] [.int .i64 n, .bool false, .bool false, undef, undef, .bool false] ?_ ?_)
  · refine stpx (fun _ _ => ex_move _) ?_
    refine stpx (fun _ _ => ex_igtr rfl rfl false (by rw [eq_comm, decide_eq_false_iff_not]; omega)) ?_
    refine stpx (fun _ _ => ex_move _) ?_
    refine stps ?_
    refine stps ?_
    refine stpx (fun _ _ => ex_pick (r := false) rfl) ?_
    exact GSteps.nil
  intro w5 hb5
  refine th_r ?_
  have A6 := A2.keep hb5.out
  have A7 := A3.keep hb5.out
  have HB8 := below_then HB4 hb5.out
  refine wp_cond_false rfl ?_
  refine wp_skip ?_
  refine th_r ?_
  refine seq_lit ?_
  refine sv1 (sv [.n 6 x, .n 6 y, .b i]) (ex_loads 0 3 (m := [.n 6 x, .n 6 y, .b i]) flG1 rfl rfl A6 rfl rfl) ?_
  refine sv1 (nv 4 [k]) (ex_loadsn (K := 4) 0 1 (m := [k]) flFr rfl rfl A7 rfl rfl) ?_
  refine sv1 (.int .i64 n) (ex_move _) ?_
  refine sc1 (.tuple #[.slice none 0 0, .int .i64 1]) (ex_call (vs := [sv [.n 6 x, .n 6 y, .b i], nv 4 [k], .int .i64 n]) rfl Tryz.call24 rfl) (powers_neg x y i k n h _) ?_
  intro w12 hb12
  have A13 := A6.keep hb12
  have A14 := A7.keep hb12
  have HB15 := below_then HB8 hb12
  refine sv1 (.tuple #[.slice none 0 0, .int .i64 1]) (ex_move _) ?_
  refine sv1 (.slice none 0 0) (ex_extract (vs := [.slice none 0 0, .int .i64 1]) rfl rfl) ?_
  refine sv1 (.int .i64 1) (ex_extract (vs := [.slice none 0 0, .int .i64 1]) rfl rfl) ?_
  refine sv1 (.slice none 0 0) (ex_assign _) ?_
  refine sv1 (.int .i64 1) (ex_assign _) ?_
  refine seq_nil ?_
  refine wp_seq ?_
  refine wp_seq (region_0 [26, 27, 28, 29, 30, 31] [.int .i64 n, .bool true, .bool true, undef, undef, .bool true] ?_ ?_)
  · refine stpx (fun _ _ => ex_move _) ?_
    refine stpx (fun _ _ => ex_ilss rfl rfl true (by rw [eq_comm, decide_eq_true_eq]; omega)) ?_
    refine stpx (fun _ _ => ex_move _) ?_
    refine stps ?_
    refine stps ?_
    refine stpx (fun _ _ => ex_pick (r := true) rfl) ?_
    exact GSteps.nil
  intro w21 hb21
  refine th_r ?_
  have A22 := A13.keep hb21.out
  have A23 := A14.keep hb21.out
  have HB24 := below_then HB15 hb21.out
  refine wp_cond_true rfl ?_
  refine seq_lit ?_
  refine sc1 (.bool true) (ex_call (vs := []) rfl Tryz.call20 rfl) (sumalive_v _) ?_
  intro w25 hb25
  have A26 := A22.keep hb25
  have A27 := A23.keep hb25
  have HB28 := below_then HB24 hb25
  refine sv1 (.bool true) (ex_move _) ?_
  refine sv1 (.int .i64 1) (ex_move _) ?_
  refine sv1 (.bool true) (ex_eqi rfl rfl true rfl) ?_
  refine sv1 (.bool true) (ex_pick (r := true) rfl) ?_
  refine sv1 (.bool true) (ex_move _) ?_
  refine sv1 (.slice none 0 0) (ex_move _) ?_
  refine sv1 (.int .i64 0) (ex_lenR slP1 (a := none) (m := 0) (c := 0) rfl) ?_
  refine sv1 (.bool true) (ex_eqi rfl rfl true rfl) ?_
  refine sv1 (.bool true) (ex_pick (r := true) rfl) ?_
  refine sv1 (.bool true) (ex_assign _) ?_
  refine seq_nil ?_
  exact wp_ret (th_ret (bodyPost_ret (ret1 Tryz.results5 (res_tmp rfl)) rfl ⟨rfl, HB28⟩))
set_option maxRecDepth 20000 in
set_option maxHeartbeats 4000000 in
theorem sumPowers_big (x y : Nat) (i : Bool) (hx : x < fpB) (hy : y < fpB) (k : Nat) (n : Int) (h : 4096 < n) (w : World) :
    Calls Tryz.prog 5 #[sv [.n 6 x, .n 6 y, .b i], nv 4 [k], .int .i64 n] w (Is (.bool true) w) := by
  go_enter Tryz.func5, Tryz.ntmps5
  refine wp_seq (region_c 2 (fun j_ => match j_ with | 0 => 26 | _ => 49) (fun j_ => match j_ with | 0 => 0 | _ => 1) (fun j_ => match j_ with | 0 => 0 | _ => 1) (fun j_ => match j_ with | 0 => segs [.n 6 x, .n 6 y, .b i] | _ => segs [.n 4 k]) (fun j_ => match j_ with | 0 => segs [.n 6 x, .n 6 y, .b i] | _ => segs [.n 4 k]) [3, 4, 6] (fun γ => [.pointer (some ⟨γ 0, 0, none⟩), .pointer (some ⟨γ 1, 0, none⟩), .bool false]) ?_ ?_)
  · refine GSteps.cons (gm_box 0 rfl (fun _ => rfl) (fun _ _ => rfl) (fun γ w h => ex_boxs (l := [.n 6 x, .n 6 y, .b i]) rfl) rfl rfl rfl) ?_
    refine GSteps.cons (gm_box 1 rfl (fun _ => rfl) (fun _ _ => rfl) (fun γ w h => ex_boxsn (K := 4) (l := [k]) rfl) rfl rfl rfl) ?_
    refine stpx (fun _ _ => ex_assign _) ?_
    exact GSteps.nil
  intro γ1 w1 hb1 hB1 hn1
  refine th_r ?_
  have A2 : SB 26 w1 (γ1 0) [.n 6 x, .n 6 y, .b i] := (hB1 0 (by decide)).2
  have le2 := (hB1 0 (by decide)).1
  have A3 : SB 49 w1 (γ1 1) [.n 4 k] := (hB1 1 (by decide)).2
  have le3 := (hB1 1 (by decide)).1
  have HB4 := below_then (Below.refl w.heap.size w) hb1.out
  refine wp_seq ?_
  refine wp_seq (region_0 [13, 14, 15, 16, 17, 18] [.int .i64 n, .bool true, .bool true, .int .i64 n, .bool false, .bool false] ?_ ?_)
  · refine stpx (fun _ _ => ex_move _) ?_
    refine stpx (fun _ _ => ex_igtr rfl rfl true (by rw [eq_comm, decide_eq_true_eq]; omega)) ?_
    refine stpx (fun _ _ => ex_move _) ?_
    refine stpx (fun _ _ => ex_move _) ?_
    refine stpx (fun _ _ => ex_ileq rfl rfl false (by rw [eq_comm, decide_eq_false_iff_not]; omega)) ?_
    refine stpx (fun _ _ => ex_pick (r := true) rfl) ?_
    exact GSteps.nil
  intro w5 hb5
  refine th_r ?_
  have A6 := A2.keep hb5.out
  have A7 := A3.keep hb5.out
  have HB8 := below_then HB4 hb5.out
  refine wp_cond_false rfl ?_
  refine wp_skip ?_
  refine th_r ?_
  refine seq_lit ?_
  refine sv1 (sv [.n 6 x, .n 6 y, .b i]) (ex_loads 0 3 (m := [.n 6 x, .n 6 y, .b i]) flG1 rfl rfl A6 rfl rfl) ?_
  refine sv1 (nv 4 [k]) (ex_loadsn (K := 4) 0 1 (m := [k]) flFr rfl rfl A7 rfl rfl) ?_
  refine sv1 (.int .i64 n) (ex_move _) ?_
  refine sc1 (.tuple #[.slice none 0 0, .int .i64 1]) (ex_call (vs := [sv [.n 6 x, .n 6 y, .b i], nv 4 [k], .int .i64 n]) rfl Tryz.call24 rfl) (powers_big x y i k n h _) ?_
  intro w12 hb12
  have A13 := A6.keep hb12
  have A14 := A7.keep hb12
  have HB15 := below_then HB8 hb12
  refine sv1 (.tuple #[.slice none 0 0, .int .i64 1]) (ex_move _) ?_
  refine sv1 (.slice none 0 0) (ex_extract (vs := [.slice none 0 0, .int .i64 1]) rfl rfl) ?_
  refine sv1 (.int .i64 1) (ex_extract (vs := [.slice none 0 0, .int .i64 1]) rfl rfl) ?_
  refine sv1 (.slice none 0 0) (ex_assign _) ?_
  refine sv1 (.int .i64 1) (ex_assign _) ?_
  refine seq_nil ?_
  refine wp_seq ?_
  refine wp_seq (region_0 [26, 27, 28, 29, 30, 31] [.int .i64 n, .bool false, .bool false, .int .i64 n, .bool true, .bool true] ?_ ?_)
  · refine stpx (fun _ _ => ex_move _) ?_
    refine stpx (fun _ _ => ex_ilss rfl rfl false (by rw [eq_comm, decide_eq_false_iff_not]; omega)) ?_
    refine stpx (fun _ _ => ex_move _) ?_
    refine stpx (fun _ _ => ex_move _) ?_
    refine stpx (fun _ _ => ex_igtr rfl rfl true (by rw [eq_comm, decide_eq_true_eq]; omega)) ?_
    refine stpx (fun _ _ => ex_pick (r := false) rfl) ?_
    exact GSteps.nil
  intro w21 hb21
  refine th_r ?_
  have A22 := A13.keep hb21.out
  have A23 := A14.keep hb21.out
  have HB24 := below_then HB15 hb21.out
  refine wp_cond_true rfl ?_
  refine seq_lit ?_
  refine sc1 (.bool true) (ex_call (vs := []) rfl Tryz.call20 rfl) (sumalive_v _) ?_
  intro w25 hb25
  have A26 := A22.keep hb25
  have A27 := A23.keep hb25
  have HB28 := below_then HB24 hb25
  refine sv1 (.bool true) (ex_move _) ?_
  refine sv1 (.int .i64 1) (ex_move _) ?_
  refine sv1 (.bool true) (ex_eqi rfl rfl true rfl) ?_
  refine sv1 (.bool true) (ex_pick (r := true) rfl) ?_
  refine sv1 (.bool true) (ex_move _) ?_
  refine sv1 (.slice none 0 0) (ex_move _) ?_
  refine sv1 (.int .i64 0) (ex_lenR slP1 (a := none) (m := 0) (c := 0) rfl) ?_
  refine sv1 (.bool true) (ex_eqi rfl rfl true rfl) ?_
  refine sv1 (.bool true) (ex_pick (r := true) rfl) ?_
  refine sv1 (.bool true) (ex_assign _) ?_
  refine seq_nil ?_
  exact wp_ret (th_ret (bodyPost_ret (ret1 Tryz.results5 (res_tmp rfl)) rfl ⟨rfl, HB28⟩))
set_option maxRecDepth 20000 in
set_option maxHeartbeats 4000000 in
theorem sumPowers_few (P : E1) (k m : Nat) (hk : k < frB) (hm : m ≤ 12) (w : World) :
    Calls Tryz.prog 5 #[sv [.n 6 (ax P.pt), .n 6 (ay P.pt), .b (ai P.pt)], nv 4 [k], .int .i64 ((m : Nat) : Int)] w (Is (.bool true) w) := by
  go_enter Tryz.func5, Tryz.ntmps5
  refine wp_seq (region_c 2 (fun j_ => match j_ with | 0 => 26 | _ => 49) (fun j_ => match j_ with | 0 => 0 | _ => 1) (fun j_ => match j_ with | 0 => 0 | _ => 1) (fun j_ => match j_ with | 0 => segs [.n 6 (ax P.pt), .n 6 (ay P.pt), .b (ai P.pt)] | _ => segs [.n 4 k]) (fun j_ => match j_ with | 0 => segs [.n 6 (ax P.pt), .n 6 (ay P.pt), .b (ai P.pt)] | _ => segs [.n 4 k]) [3, 4, 6] (fun γ => [.pointer (some ⟨γ 0, 0, none⟩), .pointer (some ⟨γ 1, 0, none⟩), .bool false]) ?_ ?_)
  · refine GSteps.cons (gm_box 0 rfl (fun _ => rfl) (fun _ _ => rfl) (fun γ w h => ex_boxs (l := [.n 6 (ax P.pt), .n 6 (ay P.pt), .b (ai P.pt)]) rfl) rfl rfl rfl) ?_
    refine GSteps.cons (gm_box 1 rfl (fun _ => rfl) (fun _ _ => rfl) (fun γ w h => ex_boxsn (K := 4) (l := [k]) rfl) rfl rfl rfl) ?_
    refine stpx (fun _ _ => ex_assign _) ?_
    exact GSteps.nil
  intro γ1 w1 hb1 hB1 hn1
  refine th_r ?_
  have A2 : SB 26 w1 (γ1 0) [.n 6 (ax P.pt), .n 6 (ay P.pt), .b (ai P.pt)] := (hB1 0 (by decide)).2
  have le2 := (hB1 0 (by decide)).1
  have A3 : SB 49 w1 (γ1 1) [.n 4 k] := (hB1 1 (by decide)).2
  have le3 := (hB1 1 (by decide)).1
  have HB4 := below_then (Below.refl w.heap.size w) hb1.out
  refine wp_seq ?_
  refine wp_seq (region_0 [13, 14, 15, 16, 17, 18] [.int .i64 ((m : Nat) : Int), .bool false, .bool false, undef, undef, .bool false] ?_ ?_)
  · refine stpx (fun _ _ => ex_move _) ?_
    refine stpx (fun _ _ => ex_igtr rfl rfl false (by rw [eq_comm, decide_eq_false_iff_not]; omega)) ?_
    refine stpx (fun _ _ => ex_move _) ?_
    refine stps ?_
    refine stps ?_
    refine stpx (fun _ _ => ex_pick (r := false) rfl) ?_
    exact GSteps.nil
  intro w5 hb5
  refine th_r ?_
  have A6 := A2.keep hb5.out
  have A7 := A3.keep hb5.out
  have HB8 := below_then HB4 hb5.out
  refine wp_cond_false rfl ?_
  refine wp_skip ?_
  refine th_r ?_
  refine seq_lit ?_
  refine sv1 (sv [.n 6 (ax P.pt), .n 6 (ay P.pt), .b (ai P.pt)]) (ex_loads 0 3 (m := [.n 6 (ax P.pt), .n 6 (ay P.pt), .b (ai P.pt)]) flG1 rfl rfl A6 rfl rfl) ?_
  refine sv1 (nv 4 [k]) (ex_loadsn (K := 4) 0 1 (m := [k]) flFr rfl rfl A7 rfl rfl) ?_
  refine sv1 (.int .i64 ((m : Nat) : Int)) (ex_move _) ?_
  refine sq_makes (a' := fun g12 => ⟨List.toArray ((sv [.n 6 (ax P.pt), .n 6 (ay P.pt), .b (ai P.pt)]) :: (nv 4 [k]) :: (.int .i64 ((m : Nat) : Int)) :: (.pointer (some ⟨(γ1 0), 0, none⟩)) :: (.pointer (some ⟨(γ1 1), 0, none⟩)) :: undef :: (.bool false) :: undef :: undef :: undef :: undef :: undef :: undef :: (.int .i64 ((m : Nat) : Int)) :: (.bool false) :: (.bool false) :: undef :: undef :: (.bool false) :: undef :: (sv [.n 6 (ax P.pt), .n 6 (ay P.pt), .b (ai P.pt)]) :: (nv 4 [k]) :: (.int .i64 ((m : Nat) : Int)) :: (.tuple #[.slice (some ⟨g12, 0, none⟩) m m, .int .i64 0]) :: undef :: undef :: undef :: undef :: undef :: undef :: undef :: undef :: undef :: undef :: undef :: undef :: undef :: undef :: undef :: undef :: undef :: undef :: undef :: undef :: undef :: undef :: undef :: undef :: undef :: undef :: undef :: undef :: undef :: undef :: undef :: undef :: undef :: undef :: undef :: undef :: undef :: undef :: undef :: undef :: undef :: undef :: undef :: undef :: undef :: undef :: undef :: undef :: undef :: undef :: undef :: undef :: undef :: undef :: undef :: undef :: undef :: undef :: undef :: undef :: undef :: undef :: undef :: undef :: undef :: []), []⟩) (val := fun g12 => .tuple #[.slice (some ⟨g12, 0, none⟩) m m, .int .i64 0]) (T := 26) (l := (cat (fun i => pt1 (EP.times C1 (k ^ i % rN) P)) m)) (fun _ => rfl) rfl (ex_call (vs := [sv [.n 6 (ax P.pt), .n 6 (ay P.pt), .b (ai P.pt)], nv 4 [k], .int .i64 ((m : Nat) : Int)]) rfl Tryz.call24 rfl) (powers_ok P k m hk hm _) ?_
  intro g12 w12 N12 le12 hb12
  have A13 := A6.keep hb12
  have A14 := A7.keep hb12
  have HB15 := below_then HB8 hb12
  refine sv1 (.tuple #[.slice (some ⟨g12, 0, none⟩) m m, .int .i64 0]) (ex_move _) ?_
  refine sv1 (.slice (some ⟨g12, 0, none⟩) m m) (ex_extract (vs := [.slice (some ⟨g12, 0, none⟩) m m, .int .i64 0]) rfl rfl) ?_
  refine sv1 (.int .i64 0) (ex_extract (vs := [.slice (some ⟨g12, 0, none⟩) m m, .int .i64 0]) rfl rfl) ?_
  refine sv1 (.slice (some ⟨g12, 0, none⟩) m m) (ex_assign _) ?_
  refine sv1 (.int .i64 0) (ex_assign _) ?_
  refine seq_nil ?_
  refine wp_seq ?_
  refine wp_seq (region_0 [26, 27, 28, 29, 30, 31] [.int .i64 ((m : Nat) : Int), .bool false, .bool false, .int .i64 ((m : Nat) : Int), .bool false, .bool false] ?_ ?_)
  · refine stpx (fun _ _ => ex_move _) ?_
    refine stpx (fun _ _ => ex_ilss rfl rfl false (by rw [eq_comm, decide_eq_false_iff_not]; omega)) ?_
    refine stpx (fun _ _ => ex_move _) ?_
    refine stpx (fun _ _ => ex_move _) ?_
    refine stpx (fun _ _ => ex_igtr rfl rfl false (by rw [eq_comm, decide_eq_false_iff_not]; omega)) ?_
    refine stpx (fun _ _ => ex_pick (r := false) rfl) ?_
    exact GSteps.nil
  intro w21 hb21
  refine th_r ?_
  have A22 := A13.keep hb21.out
  have A23 := A14.keep hb21.out
  have A24 := N12.keep hb21.out
  have HB25 := below_then HB15 hb21.out
  refine wp_cond_false rfl ?_
  refine wp_skip ?_
  refine th_r ?_
  refine wp_seq ?_
  refine seq_lit ?_
  refine sv1 (sv [.n 6 (ax P.pt), .n 6 (ay P.pt), .b (ai P.pt)]) (ex_loads 0 3 (m := [.n 6 (ax P.pt), .n 6 (ay P.pt), .b (ai P.pt)]) flG1 rfl rfl A22 rfl rfl) ?_
  refine sc1 (.bool true) (ex_call (vs := [sv [.n 6 (ax P.pt), .n 6 (ay P.pt), .b (ai P.pt)]]) rfl Tryz.call25 rfl) (oneRight_p P _) ?_
  intro w27 hb27
  have A28 := A22.keep hb27
  have A29 := A23.keep hb27
  have A30 := A24.keep hb27
  have HB31 := below_then HB25 hb27
  refine sv1 (.bool false) (ex_not (r := true) rfl) ?_
  refine seq_nil ?_
  refine wp_cond_false rfl ?_
  refine wp_skip ?_
  refine th_r ?_
  refine wp_seq ?_
  refine wp_seq (region_0 [55, 56, 57, 58, 59, 60, 61, 62] [.int .i64 0, .bool false, .bool false, .slice (some ⟨g12, 0, none⟩) m m, .int .i64 ((m : Nat) : Int), .int .i64 ((m : Nat) : Int), .bool false, .bool false] ?_ ?_)
  · refine stpx (fun _ _ => ex_move _) ?_
    refine stpx (fun _ _ => ex_neqi rfl rfl false rfl) ?_
    refine stpx (fun _ _ => ex_move _) ?_
    refine stpx (fun _ _ => ex_move _) ?_
    refine stpx (fun _ _ => ex_lenR slP1 (m := m) rfl) ?_
    refine stpx (fun _ _ => ex_move _) ?_
    refine stpx (fun _ _ => ex_neqi rfl rfl false (by simp)) ?_
    refine stpx (fun _ _ => ex_pick (r := false) rfl) ?_
    exact GSteps.nil
  intro w33 hb33
  refine th_r ?_
  have A34 := A28.keep hb33.out
  have A35 := A29.keep hb33.out
  have A36 := A30.keep hb33.out
  have HB37 := below_then HB31 hb33.out
  refine wp_cond_false rfl ?_
  refine wp_skip ?_
  refine th_r ?_
  refine wp_seq ?_
  refine wp_seq (region_0 [63, 64, 65] [.slice (some ⟨g12, 0, none⟩) m m, .int .i64 ((m : Nat) : Int), .int .i64 0] ?_ ?_)
  · refine stpx (fun _ _ => ex_move _) ?_
    refine stpx (fun _ _ => ex_lenR slP1 (m := m) rfl) ?_
    refine stpx (fun _ _ => ex_move _) ?_
    exact GSteps.nil
  intro w38 hb38
  refine th_r ?_
  have A39 := A34.keep hb38.out
  have A40 := A35.keep hb38.out
  have A41 := A36.keep hb38.out
  have HB42 := below_then HB37 hb38.out
  refine wp_block ?_
  refine wp_loop_by (m) (fun q_ a_ v_ => ∃ j6 j9 j10 j11 j12 j66 j67 j68 j69 j70 j71 j72 j73 j74 j75 j76 j77 j78 j79 j80 j81 j82 j83 j84 j85 j86 j87 : Value, a_ = ⟨List.toArray ((sv [.n 6 (ax P.pt), .n 6 (ay P.pt), .b (ai P.pt)]) :: (nv 4 [k]) :: (.int .i64 ((m : Nat) : Int)) :: (.pointer (some ⟨(γ1 0), 0, none⟩)) :: (.pointer (some ⟨(γ1 1), 0, none⟩)) :: undef :: j6 :: (.slice (some ⟨g12, 0, none⟩) m m) :: (.int .i64 0) :: j9 :: j10 :: j11 :: j12 :: (.int .i64 ((m : Nat) : Int)) :: (.bool false) :: (.bool false) :: undef :: undef :: (.bool false) :: (.tuple #[.slice (some ⟨g12, 0, none⟩) m m, .int .i64 0]) :: (sv [.n 6 (ax P.pt), .n 6 (ay P.pt), .b (ai P.pt)]) :: (nv 4 [k]) :: (.int .i64 ((m : Nat) : Int)) :: (.tuple #[.slice (some ⟨g12, 0, none⟩) m m, .int .i64 0]) :: (.slice (some ⟨g12, 0, none⟩) m m) :: (.int .i64 0) :: (.int .i64 ((m : Nat) : Int)) :: (.bool false) :: (.bool false) :: (.int .i64 ((m : Nat) : Int)) :: (.bool false) :: (.bool false) :: undef :: undef :: undef :: undef :: undef :: undef :: undef :: undef :: undef :: undef :: (sv [.n 6 (ax P.pt), .n 6 (ay P.pt), .b (ai P.pt)]) :: (.bool true) :: (.bool false) :: undef :: undef :: undef :: undef :: undef :: undef :: undef :: undef :: undef :: undef :: (.int .i64 0) :: (.bool false) :: (.bool false) :: (.slice (some ⟨g12, 0, none⟩) m m) :: (.int .i64 ((m : Nat) : Int)) :: (.int .i64 ((m : Nat) : Int)) :: (.bool false) :: (.bool false) :: (.slice (some ⟨g12, 0, none⟩) m m) :: (.int .i64 ((m : Nat) : Int)) :: (.int .i64 ((q_ : Nat) : Int)) :: j66 :: j67 :: j68 :: j69 :: j70 :: j71 :: j72 :: j73 :: j74 :: j75 :: j76 :: j77 :: j78 :: j79 :: j80 :: j81 :: j82 :: j83 :: j84 :: j85 :: j86 :: j87 :: undef :: []), []⟩ ∧ SB 26 v_ (γ1 0) [.n 6 (ax P.pt), .n 6 (ay P.pt), .b (ai P.pt)] ∧ SB 49 v_ (γ1 1) [.n 4 k] ∧ SB 26 v_ (g12) (cat (fun i => pt1 (EP.times C1 (k ^ i % rN) P)) m) ∧ Below w.heap.size w v_) ⟨_, _, _, _, _, _, _, _, _, _, _, _, _, _, _, _, _, _, _, _, _, _, _, _, _, _, _, rfl, A39, A40, A41, HB42⟩ ?_ ?_
  · intro k43 hk43
    rintro _ w43 ⟨i43_6, i43_9, i43_10, i43_11, i43_12, i43_66, i43_67, i43_68, i43_69, i43_70, i43_71, i43_72, i43_73, i43_74, i43_75, i43_76, i43_77, i43_78, i43_79, i43_80, i43_81, i43_82, i43_83, i43_84, i43_85, i43_86, i43_87, rfl, A43_0, A43_1, A43_2, HB43⟩ K43 hK43
    refine wp_seq (region_0 [66] [.bool true] ?_ ?_)
    · refine stpx (fun _ _ => ex_ilss rfl rfl true (by rw [eq_comm, decide_eq_true_eq]; omega)) ?_
      exact GSteps.nil
    intro w44 hb44
    refine th_r ?_
    have A45 := A43_0.keep hb44.out
    have A46 := A43_1.keep hb44.out
    have A47 := A43_2.keep hb44.out
    have HB48 := below_then HB43 hb44.out
    refine wp_seq ?_
    refine wp_cond_true rfl ?_
    refine wp_skip ?_
    refine th_r ?_
    refine wp_seq ?_
    refine wp_block ?_
    refine wp_seq (region_c 1 (fun _ => 26) (fun _ => 3) (fun _ => 5) (fun _ => segs [.n 6 0, .n 6 0, .b false]) (fun _ => segs [.n 6 (ax (((EP.times C1 (k ^ k43 % rN) P)).pt)), .n 6 (ay (((EP.times C1 (k ^ k43 % rN) P)).pt)), .b (ai (((EP.times C1 (k ^ k43 % rN) P)).pt))]) [67, 68, 69, 10, 9] (fun γ => [.int .i64 ((k43 : Nat) : Int), .pointer (some ⟨g12, 13 * k43, none⟩), sv [.n 6 (ax (((EP.times C1 (k ^ k43 % rN) P)).pt)), .n 6 (ay (((EP.times C1 (k ^ k43 % rN) P)).pt)), .b (ai (((EP.times C1 (k ^ k43 % rN) P)).pt))], .pointer (some ⟨γ 0, 0, none⟩), .int .i64 ((k43 : Nat) : Int)]) ?_ ?_)
    · refine stpx (fun _ _ => ex_move _) ?_
      refine stpx (fun _ _ => ex_ownR slP1 (g := g12) (m := m) (c := m) (i := k43) rfl rfl hk43) ?_
      refine stpv (fun γ w h => ex_loadO (S := fun i => pt1 (EP.times C1 (k ^ i % rN) P)) flG1 (fun _ => rfl) (A47.keep h.out) hk43 rfl rfl) ?_
      refine GSteps.cons (gm_new 0 rfl (fun _ => rfl) (fun _ _ => rfl) (fun γ w => ex_allocs (l := [.n 6 0, .n 6 0, .b false]) zG1) rfl (by kernel_rfl)) ?_
      refine stpx (fun _ _ => ex_assign _) ?_
      refine GSteps.cons (gm_store 0 rfl rfl (fun _ => rfl) (len_segs (l := [.n 6 (ax (((EP.times C1 (k ^ k43 % rN) P)).pt)), .n 6 (ay (((EP.times C1 (k ^ k43 % rN) P)).pt)), .b (ai (((EP.times C1 (k ^ k43 % rN) P)).pt))]) (l' := [.n 6 0, .n 6 0, .b false]) rfl) (fun γ w h => ex_stores 0 3 (l := [.n 6 0, .n 6 0, .b false]) (m := [.n 6 (ax (((EP.times C1 (k ^ k43 % rN) P)).pt)), .n 6 (ay (((EP.times C1 (k ^ k43 % rN) P)).pt)), .b (ai (((EP.times C1 (k ^ k43 % rN) P)).pt))]) flG1.2 rfl rfl rfl rfl h rfl rfl) rfl rfl (by kernel_rfl)) ?_
      exact GSteps.nil
    intro γ49 w49 hb49 hB49 _
    refine th_r ?_
    have A50 := A45.keep hb49.out
    have A51 := A46.keep hb49.out
    have A52 := A47.keep hb49.out
    have A53 : SB 26 w49 (γ49 0) [.n 6 (ax (((EP.times C1 (k ^ k43 % rN) P)).pt)), .n 6 (ay (((EP.times C1 (k ^ k43 % rN) P)).pt)), .b (ai (((EP.times C1 (k ^ k43 % rN) P)).pt))] := (hB49 0 (by decide)).2
    have le53 := (hB49 0 (by decide)).1
    have HB54 := below_then HB48 hb49.out
    refine wp_seq (region_c 1 (fun _ => 26) (fun _ => 10) (fun _ => 11) (fun _ => segs [.n 6 0, .n 6 0, .b false]) (fun _ => segs [.n 6 (ax (((EP.times C1 (k ^ k43 % rN) P)).pt)), .n 6 (ay (((EP.times C1 (k ^ k43 % rN) P)).pt)), .b (ai (((EP.times C1 (k ^ k43 % rN) P)).pt))]) [71, 72, 73, 74, 75, 76, 77, 70, 78, 79, 11, 12] (fun γ => [sv [.n 6 (ax P.pt), .n 6 (ay P.pt), .b (ai P.pt)], nv 4 [k], .int .i64 ((k43 : Nat) : Int), .int .u64 ((k43 : Nat) : Int), nv 4 [k43], nv 4 [(k ^ k43 % rN)], .tuple #[sv [.n 6 (ax (((EP.times C1 (k ^ k43 % rN) P)).pt)), .n 6 (ay (((EP.times C1 (k ^ k43 % rN) P)).pt)), .b (ai (((EP.times C1 (k ^ k43 % rN) P)).pt))], .int .i64 0], .tuple #[sv [.n 6 (ax (((EP.times C1 (k ^ k43 % rN) P)).pt)), .n 6 (ay (((EP.times C1 (k ^ k43 % rN) P)).pt)), .b (ai (((EP.times C1 (k ^ k43 % rN) P)).pt))], .int .i64 0], sv [.n 6 (ax (((EP.times C1 (k ^ k43 % rN) P)).pt)), .n 6 (ay (((EP.times C1 (k ^ k43 % rN) P)).pt)), .b (ai (((EP.times C1 (k ^ k43 % rN) P)).pt))], .int .i64 0, .pointer (some ⟨γ 0, 0, none⟩), .int .i64 0]) ?_ ?_)
    · refine stpv (fun γ w h => ex_loads 0 3 (m := [.n 6 (ax P.pt), .n 6 (ay P.pt), .b (ai P.pt)]) flG1 rfl rfl (A50.keep h.out) rfl rfl) ?_
      refine stpv (fun γ w h => ex_loadsn (K := 4) 0 1 (m := [k]) flFr rfl rfl (A51.keep h.out) rfl rfl) ?_
      refine stpx (fun _ _ => ex_move _) ?_
      refine stpx (fun _ _ => ex_conv6464 rfl (by omega) (by omega)) ?_
      refine stpx (fun _ _ => ex_limb4 (by omega) rfl) ?_
      refine stpc (nv 4 [(k ^ k43 % rN)]) (fun γ w => ex_call (vs := [nv 4 [k], nv 4 [k43]]) rfl Tryz.call27 rfl) (fun w h => frPow_i k k43 hk (by rw [frB_big]; omega) _) ?_
      refine stpc (.tuple #[sv [.n 6 (ax (((EP.times C1 (k ^ k43 % rN) P)).pt)), .n 6 (ay (((EP.times C1 (k ^ k43 % rN) P)).pt)), .b (ai (((EP.times C1 (k ^ k43 % rN) P)).pt))], .int .i64 0]) (fun γ w => ex_call (vs := [sv [.n 6 (ax P.pt), .n 6 (ay P.pt), .b (ai P.pt)], nv 4 [(k ^ k43 % rN)]]) rfl Tryz.call26 rfl) (fun w h => oneMul_p P _ (k ^ k43 % rN) (frM_modB _) rfl _) ?_
      refine stpx (fun _ _ => ex_move _) ?_
      refine stpx (fun _ _ => ex_extract (vs := [sv [.n 6 (ax (((EP.times C1 (k ^ k43 % rN) P)).pt)), .n 6 (ay (((EP.times C1 (k ^ k43 % rN) P)).pt)), .b (ai (((EP.times C1 (k ^ k43 % rN) P)).pt))], .int .i64 0]) rfl rfl) ?_
      refine stpx (fun _ _ => ex_extract (vs := [sv [.n 6 (ax (((EP.times C1 (k ^ k43 % rN) P)).pt)), .n 6 (ay (((EP.times C1 (k ^ k43 % rN) P)).pt)), .b (ai (((EP.times C1 (k ^ k43 % rN) P)).pt))], .int .i64 0]) rfl rfl) ?_
      refine GSteps.cons (gm_new 0 rfl (fun _ => rfl) (fun _ _ => rfl) (fun γ w => ex_allocs (l := [.n 6 0, .n 6 0, .b false]) zG1) rfl (by kernel_rfl)) ?_
      refine GSteps.cons (gm_store 0 rfl rfl (fun _ => rfl) (len_segs (l := [.n 6 (ax (((EP.times C1 (k ^ k43 % rN) P)).pt)), .n 6 (ay (((EP.times C1 (k ^ k43 % rN) P)).pt)), .b (ai (((EP.times C1 (k ^ k43 % rN) P)).pt))]) (l' := [.n 6 0, .n 6 0, .b false]) rfl) (fun γ w h => ex_stores 0 3 (l := [.n 6 0, .n 6 0, .b false]) (m := [.n 6 (ax (((EP.times C1 (k ^ k43 % rN) P)).pt)), .n 6 (ay (((EP.times C1 (k ^ k43 % rN) P)).pt)), .b (ai (((EP.times C1 (k ^ k43 % rN) P)).pt))]) flG1.2 rfl rfl rfl rfl h rfl rfl) rfl rfl (by kernel_rfl)) ?_
      refine stpx (fun _ _ => ex_assign _) ?_
      exact GSteps.nil
    intro γ55 w55 hb55 hB55 _
    refine th_r ?_
    have A56 := A50.keep hb55.out
    have A57 := A51.keep hb55.out
    have A58 := A52.keep hb55.out
    have A59 := A53.keep hb55.out
    have A60 : SB 26 w55 (γ55 0) [.n 6 (ax (((EP.times C1 (k ^ k43 % rN) P)).pt)), .n 6 (ay (((EP.times C1 (k ^ k43 % rN) P)).pt)), .b (ai (((EP.times C1 (k ^ k43 % rN) P)).pt))] := (hB55 0 (by decide)).2
    have le60 := (hB55 0 (by decide)).1
    have HB61 := below_then HB54 hb55.out
    refine wp_seq (region_0 [80, 81, 82, 83, 84, 85, 86] [.int .i64 0, .bool false, .bool false, sv [.n 6 (ax (((EP.times C1 (k ^ k43 % rN) P)).pt)), .n 6 (ay (((EP.times C1 (k ^ k43 % rN) P)).pt)), .b (ai (((EP.times C1 (k ^ k43 % rN) P)).pt))], sv [.n 6 (ax (((EP.times C1 (k ^ k43 % rN) P)).pt)), .n 6 (ay (((EP.times C1 (k ^ k43 % rN) P)).pt)), .b (ai (((EP.times C1 (k ^ k43 % rN) P)).pt))], .bool false, .bool false] ?_ ?_)
    · refine stpx (fun _ _ => ex_move _) ?_
      refine stpx (fun _ _ => ex_neqi rfl rfl false rfl) ?_
      refine stpx (fun _ _ => ex_move _) ?_
      refine stpv (fun γ w h => ex_loads 0 3 (m := [.n 6 (ax (((EP.times C1 (k ^ k43 % rN) P)).pt)), .n 6 (ay (((EP.times C1 (k ^ k43 % rN) P)).pt)), .b (ai (((EP.times C1 (k ^ k43 % rN) P)).pt))]) flG1 rfl rfl (A59.keep h.out) rfl rfl) ?_
      refine stpv (fun γ w h => ex_loads 0 3 (m := [.n 6 (ax (((EP.times C1 (k ^ k43 % rN) P)).pt)), .n 6 (ay (((EP.times C1 (k ^ k43 % rN) P)).pt)), .b (ai (((EP.times C1 (k ^ k43 % rN) P)).pt))]) flG1 rfl rfl (A60.keep h.out) rfl rfl) ?_
      refine stpx (fun _ _ => ex_neqs gdG1 eqG1 rfl rfl rfl (shG1_of (ax_B (((EP.times C1 (k ^ k43 % rN) P)).pt)) (ay_B (((EP.times C1 (k ^ k43 % rN) P)).pt))) (shG1_of (ax_B (((EP.times C1 (k ^ k43 % rN) P)).pt)) (ay_B (((EP.times C1 (k ^ k43 % rN) P)).pt))) false (by simp)) ?_
      refine stpx (fun _ _ => ex_pick (r := false) rfl) ?_
      exact GSteps.nil
    intro w62 hb62
    refine th_r ?_
    have A63 := A56.keep hb62.out
    have A64 := A57.keep hb62.out
    have A65 := A58.keep hb62.out
    have A66 := A59.keep hb62.out
    have A67 := A60.keep hb62.out
    have HB68 := below_then HB61 hb62.out
    refine wp_cond_false rfl ?_
    refine wp_skip ?_
    refine bk_n ?_
    refine th_r ?_
    refine wp_region_lit ?_
    refine sv1 (.int .i64 ((k43 + 1 : Nat) : Int)) (ex_iadd rfl rfl ((k43 + 1 : Nat) : Int) (cnt_up (by omega))) ?_
    refine sv1 (.int .i64 ((k43 + 1 : Nat) : Int)) (ex_move _) ?_
    refine wpList_nil ?_
    refine th_r ?_
    exact hK43.out _ _ ⟨_, _, _, _, _, _, _, _, _, _, _, _, _, _, _, _, _, _, _, _, _, _, _, _, _, _, _, rfl, A63, A64, A65, HB68⟩
  · rintro _ w69 ⟨i69_6, i69_9, i69_10, i69_11, i69_12, i69_66, i69_67, i69_68, i69_69, i69_70, i69_71, i69_72, i69_73, i69_74, i69_75, i69_76, i69_77, i69_78, i69_79, i69_80, i69_81, i69_82, i69_83, i69_84, i69_85, i69_86, i69_87, rfl, A69_0, A69_1, A69_2, HB69⟩ K69
    refine wp_seq (region_0 [66] [.bool false] ?_ ?_)
    · refine stpx (fun _ _ => ex_ilss rfl rfl false (by rw [eq_comm, decide_eq_false_iff_not]; omega)) ?_
      exact GSteps.nil
    intro w70 hb70
    refine th_r ?_
    have A71 := A69_0.keep hb70.out
    have A72 := A69_1.keep hb70.out
    have A73 := A69_2.keep hb70.out
    have HB74 := below_then HB69 hb70.out
    refine wp_seq ?_
    refine wp_cond_false rfl ?_
    refine wp_exit (th_e (th_e (bk_e ?_)))
    refine th_r ?_
    refine seq_lit ?_
    refine sc1 (.bool true) (ex_call (vs := []) rfl Tryz.call20 rfl) (sumalive_v _) ?_
    intro w75 hb75
    have A76 := A71.keep hb75
    have A77 := A72.keep hb75
    have A78 := A73.keep hb75
    have HB79 := below_then HB74 hb75
    refine sv1 (.bool true) (ex_assign _) ?_
    refine seq_nil ?_
    exact wp_ret (bodyPost_ret (ret1 Tryz.results5 (res_tmp rfl)) rfl ⟨rfl, HB79⟩)
set_option maxRecDepth 20000 in
set_option maxHeartbeats 4000000 in
theorem sumPowers_raw (x y : Nat) (i : Bool) (hx : x < fpB) (hy : y < fpB) (h0 : ¬ RawOk x y i) (k m : Nat) (hm : m ≤ 12) (w : World) :
    Calls Tryz.prog 5 #[sv [.n 6 x, .n 6 y, .b i], nv 4 [k], .int .i64 ((m : Nat) : Int)] w (Is (.bool true) w) := by
  go_enter Tryz.func5, Tryz.ntmps5
  refine wp_seq (region_c 2 (fun j_ => match j_ with | 0 => 26 | _ => 49) (fun j_ => match j_ with | 0 => 0 | _ => 1) (fun j_ => match j_ with | 0 => 0 | _ => 1) (fun j_ => match j_ with | 0 => segs [.n 6 x, .n 6 y, .b i] | _ => segs [.n 4 k]) (fun j_ => match j_ with | 0 => segs [.n 6 x, .n 6 y, .b i] | _ => segs [.n 4 k]) [3, 4, 6] (fun γ => [.pointer (some ⟨γ 0, 0, none⟩), .pointer (some ⟨γ 1, 0, none⟩), .bool false]) ?_ ?_)
  · refine GSteps.cons (gm_box 0 rfl (fun _ => rfl) (fun _ _ => rfl) (fun γ w h => ex_boxs (l := [.n 6 x, .n 6 y, .b i]) rfl) rfl rfl rfl) ?_
    refine GSteps.cons (gm_box 1 rfl (fun _ => rfl) (fun _ _ => rfl) (fun γ w h => ex_boxsn (K := 4) (l := [k]) rfl) rfl rfl rfl) ?_
    refine stpx (fun _ _ => ex_assign _) ?_
    exact GSteps.nil
  intro γ1 w1 hb1 hB1 hn1
  refine th_r ?_
  have A2 : SB 26 w1 (γ1 0) [.n 6 x, .n 6 y, .b i] := (hB1 0 (by decide)).2
  have le2 := (hB1 0 (by decide)).1
  have A3 : SB 49 w1 (γ1 1) [.n 4 k] := (hB1 1 (by decide)).2
  have le3 := (hB1 1 (by decide)).1
  have HB4 := below_then (Below.refl w.heap.size w) hb1.out
  refine wp_seq ?_
  refine wp_seq (region_0 [13, 14, 15, 16, 17, 18] [.int .i64 ((m : Nat) : Int), .bool false, .bool false, undef, undef, .bool false] ?_ ?_)
  · refine stpx (fun _ _ => ex_move _) ?_
    refine stpx (fun _ _ => ex_igtr rfl rfl false (by rw [eq_comm, decide_eq_false_iff_not]; omega)) ?_
    refine stpx (fun _ _ => ex_move _) ?_
    refine stps ?_
    refine stps ?_
    refine stpx (fun _ _ => ex_pick (r := false) rfl) ?_
    exact GSteps.nil
  intro w5 hb5
  refine th_r ?_
  have A6 := A2.keep hb5.out
  have A7 := A3.keep hb5.out
  have HB8 := below_then HB4 hb5.out
  refine wp_cond_false rfl ?_
  refine wp_skip ?_
  refine th_r ?_
  refine seq_lit ?_
  refine sv1 (sv [.n 6 x, .n 6 y, .b i]) (ex_loads 0 3 (m := [.n 6 x, .n 6 y, .b i]) flG1 rfl rfl A6 rfl rfl) ?_
  refine sv1 (nv 4 [k]) (ex_loadsn (K := 4) 0 1 (m := [k]) flFr rfl rfl A7 rfl rfl) ?_
  refine sv1 (.int .i64 ((m : Nat) : Int)) (ex_move _) ?_
  refine sc1 (.tuple #[.slice none 0 0, .int .i64 30]) (ex_call (vs := [sv [.n 6 x, .n 6 y, .b i], nv 4 [k], .int .i64 ((m : Nat) : Int)]) rfl Tryz.call24 rfl) (powers_no x y i hx hy h0 k m hm _) ?_
  intro w12 hb12
  have A13 := A6.keep hb12
  have A14 := A7.keep hb12
  have HB15 := below_then HB8 hb12
  refine sv1 (.tuple #[.slice none 0 0, .int .i64 30]) (ex_move _) ?_
  refine sv1 (.slice none 0 0) (ex_extract (vs := [.slice none 0 0, .int .i64 30]) rfl rfl) ?_
  refine sv1 (.int .i64 30) (ex_extract (vs := [.slice none 0 0, .int .i64 30]) rfl rfl) ?_
  refine sv1 (.slice none 0 0) (ex_assign _) ?_
  refine sv1 (.int .i64 30) (ex_assign _) ?_
  refine seq_nil ?_
  refine wp_seq ?_
  refine wp_seq (region_0 [26, 27, 28, 29, 30, 31] [.int .i64 ((m : Nat) : Int), .bool false, .bool false, .int .i64 ((m : Nat) : Int), .bool false, .bool false] ?_ ?_)
  · refine stpx (fun _ _ => ex_move _) ?_
    refine stpx (fun _ _ => ex_ilss rfl rfl false (by rw [eq_comm, decide_eq_false_iff_not]; omega)) ?_
    refine stpx (fun _ _ => ex_move _) ?_
    refine stpx (fun _ _ => ex_move _) ?_
    refine stpx (fun _ _ => ex_igtr rfl rfl false (by rw [eq_comm, decide_eq_false_iff_not]; omega)) ?_
    refine stpx (fun _ _ => ex_pick (r := false) rfl) ?_
    exact GSteps.nil
  intro w21 hb21
  refine th_r ?_
  have A22 := A13.keep hb21.out
  have A23 := A14.keep hb21.out
  have HB24 := below_then HB15 hb21.out
  refine wp_cond_false rfl ?_
  refine wp_skip ?_
  refine th_r ?_
  refine wp_seq ?_
  refine seq_lit ?_
  refine sv1 (sv [.n 6 x, .n 6 y, .b i]) (ex_loads 0 3 (m := [.n 6 x, .n 6 y, .b i]) flG1 rfl rfl A22 rfl rfl) ?_
  refine sc1 (.bool false) (ex_call (vs := [sv [.n 6 x, .n 6 y, .b i]]) rfl Tryz.call25 rfl) (oneRight_no hx hy h0 _) ?_
  intro w26 hb26
  have A27 := A22.keep hb26
  have A28 := A23.keep hb26
  have HB29 := below_then HB24 hb26
  refine sv1 (.bool true) (ex_not (r := false) rfl) ?_
  refine seq_nil ?_
  refine wp_cond_true rfl ?_
  refine seq_lit ?_
  refine sc1 (.bool true) (ex_call (vs := []) rfl Tryz.call20 rfl) (sumalive_v _) ?_
  intro w31 hb31
  have A32 := A27.keep hb31
  have A33 := A28.keep hb31
  have HB34 := below_then HB29 hb31
  refine sv1 (.bool true) (ex_move _) ?_
  refine sv1 (.int .i64 30) (ex_move _) ?_
  refine sv1 (.bool true) (ex_eqi rfl rfl true rfl) ?_
  refine sv1 (.bool true) (ex_pick (r := true) rfl) ?_
  refine sv1 (.bool true) (ex_move _) ?_
  refine sv1 (.slice none 0 0) (ex_move _) ?_
  refine sv1 (.int .i64 0) (ex_lenR slP1 (a := none) (m := 0) (c := 0) rfl) ?_
  refine sv1 (.bool true) (ex_eqi rfl rfl true rfl) ?_
  refine sv1 (.bool true) (ex_pick (r := true) rfl) ?_
  refine sv1 (.bool true) (ex_assign _) ?_
  refine seq_nil ?_
  exact wp_ret (th_ret (bodyPost_ret (ret1 Tryz.results5 (res_tmp rfl)) rfl ⟨rfl, HB34⟩))
set_option maxRecDepth 20000 in
set_option maxHeartbeats 4000000 in
theorem sumPowers_12 (P : E1) (k m : Nat) (hk : k < frB) (hm : m ≤ 12) (e : m = 12) (n : Int) (h1 : 12 < n) (h2 : n ≤ 4096) (w : World) :
    Calls Tryz.prog 5 #[sv [.n 6 (ax P.pt), .n 6 (ay P.pt), .b (ai P.pt)], nv 4 [k], .int .i64 n] w (Is (.bool true) w) := by
  go_enter Tryz.func5, Tryz.ntmps5
  refine wp_seq (region_c 2 (fun j_ => match j_ with | 0 => 26 | _ => 49) (fun j_ => match j_ with | 0 => 0 | _ => 1) (fun j_ => match j_ with | 0 => 0 | _ => 1) (fun j_ => match j_ with | 0 => segs [.n 6 (ax P.pt), .n 6 (ay P.pt), .b (ai P.pt)] | _ => segs [.n 4 k]) (fun j_ => match j_ with | 0 => segs [.n 6 (ax P.pt), .n 6 (ay P.pt), .b (ai P.pt)] | _ => segs [.n 4 k]) [3, 4, 6] (fun γ => [.pointer (some ⟨γ 0, 0, none⟩), .pointer (some ⟨γ 1, 0, none⟩), .bool false]) ?_ ?_)
  · refine GSteps.cons (gm_box 0 rfl (fun _ => rfl) (fun _ _ => rfl) (fun γ w h => ex_boxs (l := [.n 6 (ax P.pt), .n 6 (ay P.pt), .b (ai P.pt)]) rfl) rfl rfl rfl) ?_
    refine GSteps.cons (gm_box 1 rfl (fun _ => rfl) (fun _ _ => rfl) (fun γ w h => ex_boxsn (K := 4) (l := [k]) rfl) rfl rfl rfl) ?_
    refine stpx (fun _ _ => ex_assign _) ?_
    exact GSteps.nil
  intro γ1 w1 hb1 hB1 hn1
  refine th_r ?_
  have A2 : SB 26 w1 (γ1 0) [.n 6 (ax P.pt), .n 6 (ay P.pt), .b (ai P.pt)] := (hB1 0 (by decide)).2
  have le2 := (hB1 0 (by decide)).1
  have A3 : SB 49 w1 (γ1 1) [.n 4 k] := (hB1 1 (by decide)).2
  have le3 := (hB1 1 (by decide)).1
  have HB4 := below_then (Below.refl w.heap.size w) hb1.out
  refine wp_seq ?_
  refine wp_seq (region_0 [13, 14, 15, 16, 17, 18] [.int .i64 n, .bool true, .bool true, .int .i64 n, .bool true, .bool true] ?_ ?_)
  · refine stpx (fun _ _ => ex_move _) ?_
    refine stpx (fun _ _ => ex_igtr rfl rfl true (by rw [eq_comm, decide_eq_true_eq]; omega)) ?_
    refine stpx (fun _ _ => ex_move _) ?_
    refine stpx (fun _ _ => ex_move _) ?_
    refine stpx (fun _ _ => ex_ileq rfl rfl true (by rw [eq_comm, decide_eq_true_eq]; omega)) ?_
    refine stpx (fun _ _ => ex_pick (r := true) rfl) ?_
    exact GSteps.nil
  intro w5 hb5
  refine th_r ?_
  have A6 := A2.keep hb5.out
  have A7 := A3.keep hb5.out
  have HB8 := below_then HB4 hb5.out
  refine wp_cond_true rfl ?_
  refine region_0 [2] [.int .i64 12] ?_ ?_
  · refine stpx (fun _ _ => ex_assign _) ?_
    exact GSteps.nil
  intro w9 hb9
  have A10 := A6.keep hb9.out
  have A11 := A7.keep hb9.out
  have HB12 := below_then HB8 hb9.out
  refine th_r ?_
  rw [show (12 : Int) = ((m : Nat) : Int) by omega]
  · refine seq_lit ?_
    refine sv1 (sv [.n 6 (ax P.pt), .n 6 (ay P.pt), .b (ai P.pt)]) (ex_loads 0 3 (m := [.n 6 (ax P.pt), .n 6 (ay P.pt), .b (ai P.pt)]) flG1 rfl rfl A10 rfl rfl) ?_
    refine sv1 (nv 4 [k]) (ex_loadsn (K := 4) 0 1 (m := [k]) flFr rfl rfl A11 rfl rfl) ?_
    refine sv1 (.int .i64 ((m : Nat) : Int)) (ex_move _) ?_
    refine sq_makes (a' := fun g16 => ⟨List.toArray ((sv [.n 6 (ax P.pt), .n 6 (ay P.pt), .b (ai P.pt)]) :: (nv 4 [k]) :: (.int .i64 ((m : Nat) : Int)) :: (.pointer (some ⟨(γ1 0), 0, none⟩)) :: (.pointer (some ⟨(γ1 1), 0, none⟩)) :: undef :: (.bool false) :: undef :: undef :: undef :: undef :: undef :: undef :: (.int .i64 n) :: (.bool true) :: (.bool true) :: (.int .i64 n) :: (.bool true) :: (.bool true) :: undef :: (sv [.n 6 (ax P.pt), .n 6 (ay P.pt), .b (ai P.pt)]) :: (nv 4 [k]) :: (.int .i64 ((m : Nat) : Int)) :: (.tuple #[.slice (some ⟨g16, 0, none⟩) m m, .int .i64 0]) :: undef :: undef :: undef :: undef :: undef :: undef :: undef :: undef :: undef :: undef :: undef :: undef :: undef :: undef :: undef :: undef :: undef :: undef :: undef :: undef :: undef :: undef :: undef :: undef :: undef :: undef :: undef :: undef :: undef :: undef :: undef :: undef :: undef :: undef :: undef :: undef :: undef :: undef :: undef :: undef :: undef :: undef :: undef :: undef :: undef :: undef :: undef :: undef :: undef :: undef :: undef :: undef :: undef :: undef :: undef :: undef :: undef :: undef :: undef :: undef :: undef :: undef :: undef :: undef :: undef :: []), []⟩) (val := fun g16 => .tuple #[.slice (some ⟨g16, 0, none⟩) m m, .int .i64 0]) (T := 26) (l := (cat (fun i => pt1 (EP.times C1 (k ^ i % rN) P)) m)) (fun _ => rfl) rfl (ex_call (vs := [sv [.n 6 (ax P.pt), .n 6 (ay P.pt), .b (ai P.pt)], nv 4 [k], .int .i64 ((m : Nat) : Int)]) rfl Tryz.call24 rfl) (powers_ok P k m hk hm _) ?_
    intro g16 w16 N16 le16 hb16
    have A17 := A10.keep hb16
    have A18 := A11.keep hb16
    have HB19 := below_then HB12 hb16
    refine sv1 (.tuple #[.slice (some ⟨g16, 0, none⟩) m m, .int .i64 0]) (ex_move _) ?_
    refine sv1 (.slice (some ⟨g16, 0, none⟩) m m) (ex_extract (vs := [.slice (some ⟨g16, 0, none⟩) m m, .int .i64 0]) rfl rfl) ?_
    refine sv1 (.int .i64 0) (ex_extract (vs := [.slice (some ⟨g16, 0, none⟩) m m, .int .i64 0]) rfl rfl) ?_
    refine sv1 (.slice (some ⟨g16, 0, none⟩) m m) (ex_assign _) ?_
    refine sv1 (.int .i64 0) (ex_assign _) ?_
    refine seq_nil ?_
    refine wp_seq ?_
    refine wp_seq (region_0 [26, 27, 28, 29, 30, 31] [.int .i64 ((m : Nat) : Int), .bool false, .bool false, .int .i64 ((m : Nat) : Int), .bool false, .bool false] ?_ ?_)
    · refine stpx (fun _ _ => ex_move _) ?_
      refine stpx (fun _ _ => ex_ilss rfl rfl false (by rw [eq_comm, decide_eq_false_iff_not]; omega)) ?_
      refine stpx (fun _ _ => ex_move _) ?_
      refine stpx (fun _ _ => ex_move _) ?_
      refine stpx (fun _ _ => ex_igtr rfl rfl false (by rw [eq_comm, decide_eq_false_iff_not]; omega)) ?_
      refine stpx (fun _ _ => ex_pick (r := false) rfl) ?_
      exact GSteps.nil
    intro w25 hb25
    refine th_r ?_
    have A26 := A17.keep hb25.out
    have A27 := A18.keep hb25.out
    have A28 := N16.keep hb25.out
    have HB29 := below_then HB19 hb25.out
    refine wp_cond_false rfl ?_
    refine wp_skip ?_
    refine th_r ?_
    refine wp_seq ?_
    refine seq_lit ?_
    refine sv1 (sv [.n 6 (ax P.pt), .n 6 (ay P.pt), .b (ai P.pt)]) (ex_loads 0 3 (m := [.n 6 (ax P.pt), .n 6 (ay P.pt), .b (ai P.pt)]) flG1 rfl rfl A26 rfl rfl) ?_
    refine sc1 (.bool true) (ex_call (vs := [sv [.n 6 (ax P.pt), .n 6 (ay P.pt), .b (ai P.pt)]]) rfl Tryz.call25 rfl) (oneRight_p P _) ?_
    intro w31 hb31
    have A32 := A26.keep hb31
    have A33 := A27.keep hb31
    have A34 := A28.keep hb31
    have HB35 := below_then HB29 hb31
    refine sv1 (.bool false) (ex_not (r := true) rfl) ?_
    refine seq_nil ?_
    refine wp_cond_false rfl ?_
    refine wp_skip ?_
    refine th_r ?_
    refine wp_seq ?_
    refine wp_seq (region_0 [55, 56, 57, 58, 59, 60, 61, 62] [.int .i64 0, .bool false, .bool false, .slice (some ⟨g16, 0, none⟩) m m, .int .i64 ((m : Nat) : Int), .int .i64 ((m : Nat) : Int), .bool false, .bool false] ?_ ?_)
    · refine stpx (fun _ _ => ex_move _) ?_
      refine stpx (fun _ _ => ex_neqi rfl rfl false rfl) ?_
      refine stpx (fun _ _ => ex_move _) ?_
      refine stpx (fun _ _ => ex_move _) ?_
      refine stpx (fun _ _ => ex_lenR slP1 (m := m) rfl) ?_
      refine stpx (fun _ _ => ex_move _) ?_
      refine stpx (fun _ _ => ex_neqi rfl rfl false (by simp)) ?_
      refine stpx (fun _ _ => ex_pick (r := false) rfl) ?_
      exact GSteps.nil
    intro w37 hb37
    refine th_r ?_
    have A38 := A32.keep hb37.out
    have A39 := A33.keep hb37.out
    have A40 := A34.keep hb37.out
    have HB41 := below_then HB35 hb37.out
    refine wp_cond_false rfl ?_
    refine wp_skip ?_
    refine th_r ?_
    refine wp_seq ?_
    refine wp_seq (region_0 [63, 64, 65] [.slice (some ⟨g16, 0, none⟩) m m, .int .i64 ((m : Nat) : Int), .int .i64 0] ?_ ?_)
    · refine stpx (fun _ _ => ex_move _) ?_
      refine stpx (fun _ _ => ex_lenR slP1 (m := m) rfl) ?_
      refine stpx (fun _ _ => ex_move _) ?_
      exact GSteps.nil
    intro w42 hb42
    refine th_r ?_
    have A43 := A38.keep hb42.out
    have A44 := A39.keep hb42.out
    have A45 := A40.keep hb42.out
    have HB46 := below_then HB41 hb42.out
    refine wp_block ?_
    refine wp_loop_by (m) (fun q_ a_ v_ => ∃ j6 j9 j10 j11 j12 j66 j67 j68 j69 j70 j71 j72 j73 j74 j75 j76 j77 j78 j79 j80 j81 j82 j83 j84 j85 j86 j87 : Value, a_ = ⟨List.toArray ((sv [.n 6 (ax P.pt), .n 6 (ay P.pt), .b (ai P.pt)]) :: (nv 4 [k]) :: (.int .i64 ((m : Nat) : Int)) :: (.pointer (some ⟨(γ1 0), 0, none⟩)) :: (.pointer (some ⟨(γ1 1), 0, none⟩)) :: undef :: j6 :: (.slice (some ⟨g16, 0, none⟩) m m) :: (.int .i64 0) :: j9 :: j10 :: j11 :: j12 :: (.int .i64 n) :: (.bool true) :: (.bool true) :: (.int .i64 n) :: (.bool true) :: (.bool true) :: (.tuple #[.slice (some ⟨g16, 0, none⟩) m m, .int .i64 0]) :: (sv [.n 6 (ax P.pt), .n 6 (ay P.pt), .b (ai P.pt)]) :: (nv 4 [k]) :: (.int .i64 ((m : Nat) : Int)) :: (.tuple #[.slice (some ⟨g16, 0, none⟩) m m, .int .i64 0]) :: (.slice (some ⟨g16, 0, none⟩) m m) :: (.int .i64 0) :: (.int .i64 ((m : Nat) : Int)) :: (.bool false) :: (.bool false) :: (.int .i64 ((m : Nat) : Int)) :: (.bool false) :: (.bool false) :: undef :: undef :: undef :: undef :: undef :: undef :: undef :: undef :: undef :: undef :: (sv [.n 6 (ax P.pt), .n 6 (ay P.pt), .b (ai P.pt)]) :: (.bool true) :: (.bool false) :: undef :: undef :: undef :: undef :: undef :: undef :: undef :: undef :: undef :: undef :: (.int .i64 0) :: (.bool false) :: (.bool false) :: (.slice (some ⟨g16, 0, none⟩) m m) :: (.int .i64 ((m : Nat) : Int)) :: (.int .i64 ((m : Nat) : Int)) :: (.bool false) :: (.bool false) :: (.slice (some ⟨g16, 0, none⟩) m m) :: (.int .i64 ((m : Nat) : Int)) :: (.int .i64 ((q_ : Nat) : Int)) :: j66 :: j67 :: j68 :: j69 :: j70 :: j71 :: j72 :: j73 :: j74 :: j75 :: j76 :: j77 :: j78 :: j79 :: j80 :: j81 :: j82 :: j83 :: j84 :: j85 :: j86 :: j87 :: undef :: []), []⟩ ∧ SB 26 v_ (γ1 0) [.n 6 (ax P.pt), .n 6 (ay P.pt), .b (ai P.pt)] ∧ SB 49 v_ (γ1 1) [.n 4 k] ∧ SB 26 v_ (g16) (cat (fun i => pt1 (EP.times C1 (k ^ i % rN) P)) m) ∧ Below w.heap.size w v_) ⟨_, _, _, _, _, _, _, _, _, _, _, _, _, _, _, _, _, _, _, _, _, _, _, _, _, _, _, rfl, A43, A44, A45, HB46⟩ ?_ ?_
    · intro k47 hk47
      rintro _ w47 ⟨i47_6, i47_9, i47_10, i47_11, i47_12, i47_66, i47_67, i47_68, i47_69, i47_70, i47_71, i47_72, i47_73, i47_74, i47_75, i47_76, i47_77, i47_78, i47_79, i47_80, i47_81, i47_82, i47_83, i47_84, i47_85, i47_86, i47_87, rfl, A47_0, A47_1, A47_2, HB47⟩ K47 hK47
      refine wp_seq (region_0 [66] [.bool true] ?_ ?_)
      · refine stpx (fun _ _ => ex_ilss rfl rfl true (by rw [eq_comm, decide_eq_true_eq]; omega)) ?_
        exact GSteps.nil
      intro w48 hb48
      refine th_r ?_
      have A49 := A47_0.keep hb48.out
      have A50 := A47_1.keep hb48.out
      have A51 := A47_2.keep hb48.out
      have HB52 := below_then HB47 hb48.out
      refine wp_seq ?_
      refine wp_cond_true rfl ?_
      refine wp_skip ?_
      refine th_r ?_
      refine wp_seq ?_
      refine wp_block ?_
      refine wp_seq (region_c 1 (fun _ => 26) (fun _ => 3) (fun _ => 5) (fun _ => segs [.n 6 0, .n 6 0, .b false]) (fun _ => segs [.n 6 (ax (((EP.times C1 (k ^ k47 % rN) P)).pt)), .n 6 (ay (((EP.times C1 (k ^ k47 % rN) P)).pt)), .b (ai (((EP.times C1 (k ^ k47 % rN) P)).pt))]) [67, 68, 69, 10, 9] (fun γ => [.int .i64 ((k47 : Nat) : Int), .pointer (some ⟨g16, 13 * k47, none⟩), sv [.n 6 (ax (((EP.times C1 (k ^ k47 % rN) P)).pt)), .n 6 (ay (((EP.times C1 (k ^ k47 % rN) P)).pt)), .b (ai (((EP.times C1 (k ^ k47 % rN) P)).pt))], .pointer (some ⟨γ 0, 0, none⟩), .int .i64 ((k47 : Nat) : Int)]) ?_ ?_)
      · refine stpx (fun _ _ => ex_move _) ?_
        refine stpx (fun _ _ => ex_ownR slP1 (g := g16) (m := m) (c := m) (i := k47) rfl rfl hk47) ?_
        refine stpv (fun γ w h => ex_loadO (S := fun i => pt1 (EP.times C1 (k ^ i % rN) P)) flG1 (fun _ => rfl) (A51.keep h.out) hk47 rfl rfl) ?_
        refine GSteps.cons (gm_new 0 rfl (fun _ => rfl) (fun _ _ => rfl) (fun γ w => ex_allocs (l := [.n 6 0, .n 6 0, .b false]) zG1) rfl (by kernel_rfl)) ?_
        refine stpx (fun _ _ => ex_assign _) ?_
        refine GSteps.cons (gm_store 0 rfl rfl (fun _ => rfl) (len_segs (l := [.n 6 (ax (((EP.times C1 (k ^ k47 % rN) P)).pt)), .n 6 (ay (((EP.times C1 (k ^ k47 % rN) P)).pt)), .b (ai (((EP.times C1 (k ^ k47 % rN) P)).pt))]) (l' := [.n 6 0, .n 6 0, .b false]) rfl) (fun γ w h => ex_stores 0 3 (l := [.n 6 0, .n 6 0, .b false]) (m := [.n 6 (ax (((EP.times C1 (k ^ k47 % rN) P)).pt)), .n 6 (ay (((EP.times C1 (k ^ k47 % rN) P)).pt)), .b (ai (((EP.times C1 (k ^ k47 % rN) P)).pt))]) flG1.2 rfl rfl rfl rfl h rfl rfl) rfl rfl (by kernel_rfl)) ?_
        exact GSteps.nil
      intro γ53 w53 hb53 hB53 _
      refine th_r ?_
      have A54 := A49.keep hb53.out
      have A55 := A50.keep hb53.out
      have A56 := A51.keep hb53.out
      have A57 : SB 26 w53 (γ53 0) [.n 6 (ax (((EP.times C1 (k ^ k47 % rN) P)).pt)), .n 6 (ay (((EP.times C1 (k ^ k47 % rN) P)).pt)), .b (ai (((EP.times C1 (k ^ k47 % rN) P)).pt))] := (hB53 0 (by decide)).2
      have le57 := (hB53 0 (by decide)).1
      have HB58 := below_then HB52 hb53.out
      refine wp_seq (region_c 1 (fun _ => 26) (fun _ => 10) (fun _ => 11) (fun _ => segs [.n 6 0, .n 6 0, .b false]) (fun _ => segs [.n 6 (ax (((EP.times C1 (k ^ k47 % rN) P)).pt)), .n 6 (ay (((EP.times C1 (k ^ k47 % rN) P)).pt)), .b (ai (((EP.times C1 (k ^ k47 % rN) P)).pt))]) [71, 72, 73, 74, 75, 76, 77, 70, 78, 79, 11, 12] (fun γ => [sv [.n 6 (ax P.pt), .n 6 (ay P.pt), .b (ai P.pt)], nv 4 [k], .int .i64 ((k47 : Nat) : Int), .int .u64 ((k47 : Nat) : Int), nv 4 [k47], nv 4 [(k ^ k47 % rN)], .tuple #[sv [.n 6 (ax (((EP.times C1 (k ^ k47 % rN) P)).pt)), .n 6 (ay (((EP.times C1 (k ^ k47 % rN) P)).pt)), .b (ai (((EP.times C1 (k ^ k47 % rN) P)).pt))], .int .i64 0], .tuple #[sv [.n 6 (ax (((EP.times C1 (k ^ k47 % rN) P)).pt)), .n 6 (ay (((EP.times C1 (k ^ k47 % rN) P)).pt)), .b (ai (((EP.times C1 (k ^ k47 % rN) P)).pt))], .int .i64 0], sv [.n 6 (ax (((EP.times C1 (k ^ k47 % rN) P)).pt)), .n 6 (ay (((EP.times C1 (k ^ k47 % rN) P)).pt)), .b (ai (((EP.times C1 (k ^ k47 % rN) P)).pt))], .int .i64 0, .pointer (some ⟨γ 0, 0, none⟩), .int .i64 0]) ?_ ?_)
      · refine stpv (fun γ w h => ex_loads 0 3 (m := [.n 6 (ax P.pt), .n 6 (ay P.pt), .b (ai P.pt)]) flG1 rfl rfl (A54.keep h.out) rfl rfl) ?_
        refine stpv (fun γ w h => ex_loadsn (K := 4) 0 1 (m := [k]) flFr rfl rfl (A55.keep h.out) rfl rfl) ?_
        refine stpx (fun _ _ => ex_move _) ?_
        refine stpx (fun _ _ => ex_conv6464 rfl (by omega) (by omega)) ?_
        refine stpx (fun _ _ => ex_limb4 (by omega) rfl) ?_
        refine stpc (nv 4 [(k ^ k47 % rN)]) (fun γ w => ex_call (vs := [nv 4 [k], nv 4 [k47]]) rfl Tryz.call27 rfl) (fun w h => frPow_i k k47 hk (by rw [frB_big]; omega) _) ?_
        refine stpc (.tuple #[sv [.n 6 (ax (((EP.times C1 (k ^ k47 % rN) P)).pt)), .n 6 (ay (((EP.times C1 (k ^ k47 % rN) P)).pt)), .b (ai (((EP.times C1 (k ^ k47 % rN) P)).pt))], .int .i64 0]) (fun γ w => ex_call (vs := [sv [.n 6 (ax P.pt), .n 6 (ay P.pt), .b (ai P.pt)], nv 4 [(k ^ k47 % rN)]]) rfl Tryz.call26 rfl) (fun w h => oneMul_p P _ (k ^ k47 % rN) (frM_modB _) rfl _) ?_
        refine stpx (fun _ _ => ex_move _) ?_
        refine stpx (fun _ _ => ex_extract (vs := [sv [.n 6 (ax (((EP.times C1 (k ^ k47 % rN) P)).pt)), .n 6 (ay (((EP.times C1 (k ^ k47 % rN) P)).pt)), .b (ai (((EP.times C1 (k ^ k47 % rN) P)).pt))], .int .i64 0]) rfl rfl) ?_
        refine stpx (fun _ _ => ex_extract (vs := [sv [.n 6 (ax (((EP.times C1 (k ^ k47 % rN) P)).pt)), .n 6 (ay (((EP.times C1 (k ^ k47 % rN) P)).pt)), .b (ai (((EP.times C1 (k ^ k47 % rN) P)).pt))], .int .i64 0]) rfl rfl) ?_
        refine GSteps.cons (gm_new 0 rfl (fun _ => rfl) (fun _ _ => rfl) (fun γ w => ex_allocs (l := [.n 6 0, .n 6 0, .b false]) zG1) rfl (by kernel_rfl)) ?_
        refine GSteps.cons (gm_store 0 rfl rfl (fun _ => rfl) (len_segs (l := [.n 6 (ax (((EP.times C1 (k ^ k47 % rN) P)).pt)), .n 6 (ay (((EP.times C1 (k ^ k47 % rN) P)).pt)), .b (ai (((EP.times C1 (k ^ k47 % rN) P)).pt))]) (l' := [.n 6 0, .n 6 0, .b false]) rfl) (fun γ w h => ex_stores 0 3 (l := [.n 6 0, .n 6 0, .b false]) (m := [.n 6 (ax (((EP.times C1 (k ^ k47 % rN) P)).pt)), .n 6 (ay (((EP.times C1 (k ^ k47 % rN) P)).pt)), .b (ai (((EP.times C1 (k ^ k47 % rN) P)).pt))]) flG1.2 rfl rfl rfl rfl h rfl rfl) rfl rfl (by kernel_rfl)) ?_
        refine stpx (fun _ _ => ex_assign _) ?_
        exact GSteps.nil
      intro γ59 w59 hb59 hB59 _
      refine th_r ?_
      have A60 := A54.keep hb59.out
      have A61 := A55.keep hb59.out
      have A62 := A56.keep hb59.out
      have A63 := A57.keep hb59.out
      have A64 : SB 26 w59 (γ59 0) [.n 6 (ax (((EP.times C1 (k ^ k47 % rN) P)).pt)), .n 6 (ay (((EP.times C1 (k ^ k47 % rN) P)).pt)), .b (ai (((EP.times C1 (k ^ k47 % rN) P)).pt))] := (hB59 0 (by decide)).2
      have le64 := (hB59 0 (by decide)).1
      have HB65 := below_then HB58 hb59.out
      refine wp_seq (region_0 [80, 81, 82, 83, 84, 85, 86] [.int .i64 0, .bool false, .bool false, sv [.n 6 (ax (((EP.times C1 (k ^ k47 % rN) P)).pt)), .n 6 (ay (((EP.times C1 (k ^ k47 % rN) P)).pt)), .b (ai (((EP.times C1 (k ^ k47 % rN) P)).pt))], sv [.n 6 (ax (((EP.times C1 (k ^ k47 % rN) P)).pt)), .n 6 (ay (((EP.times C1 (k ^ k47 % rN) P)).pt)), .b (ai (((EP.times C1 (k ^ k47 % rN) P)).pt))], .bool false, .bool false] ?_ ?_)
      · refine stpx (fun _ _ => ex_move _) ?_
        refine stpx (fun _ _ => ex_neqi rfl rfl false rfl) ?_
        refine stpx (fun _ _ => ex_move _) ?_
        refine stpv (fun γ w h => ex_loads 0 3 (m := [.n 6 (ax (((EP.times C1 (k ^ k47 % rN) P)).pt)), .n 6 (ay (((EP.times C1 (k ^ k47 % rN) P)).pt)), .b (ai (((EP.times C1 (k ^ k47 % rN) P)).pt))]) flG1 rfl rfl (A63.keep h.out) rfl rfl) ?_
        refine stpv (fun γ w h => ex_loads 0 3 (m := [.n 6 (ax (((EP.times C1 (k ^ k47 % rN) P)).pt)), .n 6 (ay (((EP.times C1 (k ^ k47 % rN) P)).pt)), .b (ai (((EP.times C1 (k ^ k47 % rN) P)).pt))]) flG1 rfl rfl (A64.keep h.out) rfl rfl) ?_
        refine stpx (fun _ _ => ex_neqs gdG1 eqG1 rfl rfl rfl (shG1_of (ax_B (((EP.times C1 (k ^ k47 % rN) P)).pt)) (ay_B (((EP.times C1 (k ^ k47 % rN) P)).pt))) (shG1_of (ax_B (((EP.times C1 (k ^ k47 % rN) P)).pt)) (ay_B (((EP.times C1 (k ^ k47 % rN) P)).pt))) false (by simp)) ?_
        refine stpx (fun _ _ => ex_pick (r := false) rfl) ?_
        exact GSteps.nil
      intro w66 hb66
      refine th_r ?_
      have A67 := A60.keep hb66.out
      have A68 := A61.keep hb66.out
      have A69 := A62.keep hb66.out
      have A70 := A63.keep hb66.out
      have A71 := A64.keep hb66.out
      have HB72 := below_then HB65 hb66.out
      refine wp_cond_false rfl ?_
      refine wp_skip ?_
      refine bk_n ?_
      refine th_r ?_
      refine wp_region_lit ?_
      refine sv1 (.int .i64 ((k47 + 1 : Nat) : Int)) (ex_iadd rfl rfl ((k47 + 1 : Nat) : Int) (cnt_up (by omega))) ?_
      refine sv1 (.int .i64 ((k47 + 1 : Nat) : Int)) (ex_move _) ?_
      refine wpList_nil ?_
      refine th_r ?_
      exact hK47.out _ _ ⟨_, _, _, _, _, _, _, _, _, _, _, _, _, _, _, _, _, _, _, _, _, _, _, _, _, _, _, rfl, A67, A68, A69, HB72⟩
    · rintro _ w73 ⟨i73_6, i73_9, i73_10, i73_11, i73_12, i73_66, i73_67, i73_68, i73_69, i73_70, i73_71, i73_72, i73_73, i73_74, i73_75, i73_76, i73_77, i73_78, i73_79, i73_80, i73_81, i73_82, i73_83, i73_84, i73_85, i73_86, i73_87, rfl, A73_0, A73_1, A73_2, HB73⟩ K73
      refine wp_seq (region_0 [66] [.bool false] ?_ ?_)
      · refine stpx (fun _ _ => ex_ilss rfl rfl false (by rw [eq_comm, decide_eq_false_iff_not]; omega)) ?_
        exact GSteps.nil
      intro w74 hb74
      refine th_r ?_
      have A75 := A73_0.keep hb74.out
      have A76 := A73_1.keep hb74.out
      have A77 := A73_2.keep hb74.out
      have HB78 := below_then HB73 hb74.out
      refine wp_seq ?_
      refine wp_cond_false rfl ?_
      refine wp_exit (th_e (th_e (bk_e ?_)))
      refine th_r ?_
      refine seq_lit ?_
      refine sc1 (.bool true) (ex_call (vs := []) rfl Tryz.call20 rfl) (sumalive_v _) ?_
      intro w79 hb79
      have A80 := A75.keep hb79
      have A81 := A76.keep hb79
      have A82 := A77.keep hb79
      have HB83 := below_then HB78 hb79
      refine sv1 (.bool true) (ex_assign _) ?_
      refine seq_nil ?_
      exact wp_ret (bodyPost_ret (ret1 Tryz.results5 (res_tmp rfl)) rfl ⟨rfl, HB83⟩)
set_option maxRecDepth 20000 in
set_option maxHeartbeats 4000000 in
theorem sumPowers_raw12 (x y : Nat) (i : Bool) (hx : x < fpB) (hy : y < fpB) (h0 : ¬ RawOk x y i) (k m : Nat) (hm : m ≤ 12) (e : m = 12) (n : Int) (h1 : 12 < n) (h2 : n ≤ 4096) (w : World) :
    Calls Tryz.prog 5 #[sv [.n 6 x, .n 6 y, .b i], nv 4 [k], .int .i64 n] w (Is (.bool true) w) := by
  go_enter Tryz.func5, Tryz.ntmps5
  refine wp_seq (region_c 2 (fun j_ => match j_ with | 0 => 26 | _ => 49) (fun j_ => match j_ with | 0 => 0 | _ => 1) (fun j_ => match j_ with | 0 => 0 | _ => 1) (fun j_ => match j_ with | 0 => segs [.n 6 x, .n 6 y, .b i] | _ => segs [.n 4 k]) (fun j_ => match j_ with | 0 => segs [.n 6 x, .n 6 y, .b i] | _ => segs [.n 4 k]) [3, 4, 6] (fun γ => [.pointer (some ⟨γ 0, 0, none⟩), .pointer (some ⟨γ 1, 0, none⟩), .bool false]) ?_ ?_)
  · refine GSteps.cons (gm_box 0 rfl (fun _ => rfl) (fun _ _ => rfl) (fun γ w h => ex_boxs (l := [.n 6 x, .n 6 y, .b i]) rfl) rfl rfl rfl) ?_
    refine GSteps.cons (gm_box 1 rfl (fun _ => rfl) (fun _ _ => rfl) (fun γ w h => ex_boxsn (K := 4) (l := [k]) rfl) rfl rfl rfl) ?_
    refine stpx (fun _ _ => ex_assign _) ?_
    exact GSteps.nil
  intro γ1 w1 hb1 hB1 hn1
  refine th_r ?_
  have A2 : SB 26 w1 (γ1 0) [.n 6 x, .n 6 y, .b i] := (hB1 0 (by decide)).2
  have le2 := (hB1 0 (by decide)).1
  have A3 : SB 49 w1 (γ1 1) [.n 4 k] := (hB1 1 (by decide)).2
  have le3 := (hB1 1 (by decide)).1
  have HB4 := below_then (Below.refl w.heap.size w) hb1.out
  refine wp_seq ?_
  refine wp_seq (region_0 [13, 14, 15, 16, 17, 18] [.int .i64 n, .bool true, .bool true, .int .i64 n, .bool true, .bool true] ?_ ?_)
  · refine stpx (fun _ _ => ex_move _) ?_
    refine stpx (fun _ _ => ex_igtr rfl rfl true (by rw [eq_comm, decide_eq_true_eq]; omega)) ?_
    refine stpx (fun _ _ => ex_move _) ?_
    refine stpx (fun _ _ => ex_move _) ?_
    refine stpx (fun _ _ => ex_ileq rfl rfl true (by rw [eq_comm, decide_eq_true_eq]; omega)) ?_
    refine stpx (fun _ _ => ex_pick (r := true) rfl) ?_
    exact GSteps.nil
  intro w5 hb5
  refine th_r ?_
  have A6 := A2.keep hb5.out
  have A7 := A3.keep hb5.out
  have HB8 := below_then HB4 hb5.out
  refine wp_cond_true rfl ?_
  refine region_0 [2] [.int .i64 12] ?_ ?_
  · refine stpx (fun _ _ => ex_assign _) ?_
    exact GSteps.nil
  intro w9 hb9
  have A10 := A6.keep hb9.out
  have A11 := A7.keep hb9.out
  have HB12 := below_then HB8 hb9.out
  refine th_r ?_
  rw [show (12 : Int) = ((m : Nat) : Int) by omega]
  · refine seq_lit ?_
    refine sv1 (sv [.n 6 x, .n 6 y, .b i]) (ex_loads 0 3 (m := [.n 6 x, .n 6 y, .b i]) flG1 rfl rfl A10 rfl rfl) ?_
    refine sv1 (nv 4 [k]) (ex_loadsn (K := 4) 0 1 (m := [k]) flFr rfl rfl A11 rfl rfl) ?_
    refine sv1 (.int .i64 ((m : Nat) : Int)) (ex_move _) ?_
    refine sc1 (.tuple #[.slice none 0 0, .int .i64 30]) (ex_call (vs := [sv [.n 6 x, .n 6 y, .b i], nv 4 [k], .int .i64 ((m : Nat) : Int)]) rfl Tryz.call24 rfl) (powers_no x y i hx hy h0 k m hm _) ?_
    intro w16 hb16
    have A17 := A10.keep hb16
    have A18 := A11.keep hb16
    have HB19 := below_then HB12 hb16
    refine sv1 (.tuple #[.slice none 0 0, .int .i64 30]) (ex_move _) ?_
    refine sv1 (.slice none 0 0) (ex_extract (vs := [.slice none 0 0, .int .i64 30]) rfl rfl) ?_
    refine sv1 (.int .i64 30) (ex_extract (vs := [.slice none 0 0, .int .i64 30]) rfl rfl) ?_
    refine sv1 (.slice none 0 0) (ex_assign _) ?_
    refine sv1 (.int .i64 30) (ex_assign _) ?_
    refine seq_nil ?_
    refine wp_seq ?_
    refine wp_seq (region_0 [26, 27, 28, 29, 30, 31] [.int .i64 ((m : Nat) : Int), .bool false, .bool false, .int .i64 ((m : Nat) : Int), .bool false, .bool false] ?_ ?_)
    · refine stpx (fun _ _ => ex_move _) ?_
      refine stpx (fun _ _ => ex_ilss rfl rfl false (by rw [eq_comm, decide_eq_false_iff_not]; omega)) ?_
      refine stpx (fun _ _ => ex_move _) ?_
      refine stpx (fun _ _ => ex_move _) ?_
      refine stpx (fun _ _ => ex_igtr rfl rfl false (by rw [eq_comm, decide_eq_false_iff_not]; omega)) ?_
      refine stpx (fun _ _ => ex_pick (r := false) rfl) ?_
      exact GSteps.nil
    intro w25 hb25
    refine th_r ?_
    have A26 := A17.keep hb25.out
    have A27 := A18.keep hb25.out
    have HB28 := below_then HB19 hb25.out
    refine wp_cond_false rfl ?_
    refine wp_skip ?_
    refine th_r ?_
    refine wp_seq ?_
    refine seq_lit ?_
    refine sv1 (sv [.n 6 x, .n 6 y, .b i]) (ex_loads 0 3 (m := [.n 6 x, .n 6 y, .b i]) flG1 rfl rfl A26 rfl rfl) ?_
    refine sc1 (.bool false) (ex_call (vs := [sv [.n 6 x, .n 6 y, .b i]]) rfl Tryz.call25 rfl) (oneRight_no hx hy h0 _) ?_
    intro w30 hb30
    have A31 := A26.keep hb30
    have A32 := A27.keep hb30
    have HB33 := below_then HB28 hb30
    refine sv1 (.bool true) (ex_not (r := false) rfl) ?_
    refine seq_nil ?_
    refine wp_cond_true rfl ?_
    refine seq_lit ?_
    refine sc1 (.bool true) (ex_call (vs := []) rfl Tryz.call20 rfl) (sumalive_v _) ?_
    intro w35 hb35
    have A36 := A31.keep hb35
    have A37 := A32.keep hb35
    have HB38 := below_then HB33 hb35
    refine sv1 (.bool true) (ex_move _) ?_
    refine sv1 (.int .i64 30) (ex_move _) ?_
    refine sv1 (.bool true) (ex_eqi rfl rfl true rfl) ?_
    refine sv1 (.bool true) (ex_pick (r := true) rfl) ?_
    refine sv1 (.bool true) (ex_move _) ?_
    refine sv1 (.slice none 0 0) (ex_move _) ?_
    refine sv1 (.int .i64 0) (ex_lenR slP1 (a := none) (m := 0) (c := 0) rfl) ?_
    refine sv1 (.bool true) (ex_eqi rfl rfl true rfl) ?_
    refine sv1 (.bool true) (ex_pick (r := true) rfl) ?_
    refine sv1 (.bool true) (ex_assign _) ?_
    refine seq_nil ?_
    exact wp_ret (th_ret (bodyPost_ret (ret1 Tryz.results5 (res_tmp rfl)) rfl ⟨rfl, HB38⟩))
theorem sumPowers_v (x y : Nat) (i : Bool) (hx : x < fpB) (hy : y < fpB) (k : Nat) (hk : k < frB) (n : Int) (w : World) :
    Calls Tryz.prog 5 #[sv [.n 6 x, .n 6 y, .b i], nv 4 [k], .int .i64 n] w (Is (.bool true) w) := by
  by_cases c1 : n < 0
  · exact sumPowers_neg x y i hx hy k n c1 w
  by_cases c2 : 4096 < n
  · exact sumPowers_big x y i hx hy k n c2 w
  by_cases c3 : 12 < n
  · by_cases h0 : RawOk x y i
    · obtain ⟨P, rfl, rfl, rfl⟩ := h0
      exact sumPowers_12 P k 12 hk (by decide) rfl n c3 (by omega) w
    · exact sumPowers_raw12 x y i hx hy h0 k 12 (by decide) rfl n c3 (by omega) w
  obtain ⟨m, rfl⟩ := Int.eq_ofNat_of_zero_le (show 0 ≤ n by omega)
  by_cases h0 : RawOk x y i
  · obtain ⟨P, rfl, rfl, rfl⟩ := h0
    exact sumPowers_few P k m hk (by omega) w
  · exact sumPowers_raw x y i hx hy h0 k m (by omega) w
end
end Go.Proofs.YtkkmekdhejhapaaGreat

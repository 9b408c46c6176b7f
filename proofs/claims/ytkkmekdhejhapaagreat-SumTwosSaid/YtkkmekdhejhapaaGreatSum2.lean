/- What is proved here: package sum over the second curve: sums of few points, one by one. -/
import Derived.Test.YtkkmekdhejhapaaGreatSum1
import Derived.Test.YtkkmekdhejhapaaGreatTwo3
namespace Go.Proofs.YtkkmekdhejhapaaGreat
open Go.RowKit Cv
theorem sgF2_0 : Single 36 := ⟨Tryz.isAgg36, Tryz.sizeOf36⟩
theorem sgF2_1 : Single 46 := ⟨Tryz.isAgg46, Tryz.sizeOf46⟩
theorem sgF2_2 : Single 50 := ⟨Tryz.isAgg50, Tryz.sizeOf50⟩
theorem sgF2_3 : Single 47 := ⟨Tryz.isAgg47, Tryz.sizeOf47⟩
theorem sc2_fields : Tryz.prog.underlying 87 = some (.struct (List.toArray [⟨"right", 36, 0, false, "", "chirograph/sum", 0⟩, ⟨"zero", 46, 1, false, "", "chirograph/sum", 8⟩, ⟨"add", 50, 2, false, "", "chirograph/sum", 16⟩, ⟨"mul", 47, 3, false, "", "chirograph/sum", 24⟩, ⟨"few", 3, 4, false, "", "chirograph/sum", 32⟩])) := Tryz.underlying87
theorem flSc2 : Flat 87 5 := ⟨Tryz.isAgg87, Tryz.sizeOf87⟩
theorem faSc2_0 : FieldAt 87 0 0 := ⟨_, _, 0, sc2_fields, rfl, rfl, Tryz.sizeOf36⟩
theorem faSc2_1 : FieldAt 87 1 1 := ⟨_, _, 0, sc2_fields, rfl, rfl, Tryz.sizeOf46⟩
theorem faSc2_2 : FieldAt 87 2 2 := ⟨_, _, 0, sc2_fields, rfl, rfl, Tryz.sizeOf50⟩
theorem faSc2_3 : FieldAt 87 3 3 := ⟨_, _, 0, sc2_fields, rfl, rfl, Tryz.sizeOf47⟩
theorem faSc2_4 : FieldAt 87 4 4 := ⟨_, _, 0, sc2_fields, rfl, rfl, Tryz.sizeOf3⟩
theorem zSc2 (w : World) : (zeroValue 87).run Tryz.prog w = .ok (sv [.v .nilFunc, .v .nilFunc, .v .nilFunc, .v .nilFunc, .i .i64 0]) w := Tryz.zeroValue87 w
theorem stSc2 : StructS 87 [.v .nilFunc, .v .nilFunc, .v .nilFunc, .v .nilFunc, .i .i64 0] [(0, 1), (1, 1), (2, 1), (3, 1), (4, 1)] := by
  refine ⟨_, sc2_fields, zSc2, fun w => ?_⟩
  simp [Sem.run_bind, Tryz.sizeOf36, Tryz.sizeOf46, Tryz.sizeOf50, Tryz.sizeOf47, Tryz.sizeOf3]
theorem slP2 : SlS 41 30 25 := ⟨Tryz.underlying41, flG2⟩
theorem slR2 : SlS 42 49 4 := ⟨Tryz.underlying42, flFr⟩
def sumE2 (S : Nat → E2) (A : Nat → Nat) : Nat → E2
  | 0 => EP.zero
  | k + 1 => (sumE2 S A k).add C2 (EP.times C2 (A k) (S k))
abbrev pt2 (P : E2) : List Seg := [.n 6 (bx0 P.pt), .n 6 (bx1 P.pt), .n 6 (by0 P.pt), .n 6 (by1 P.pt), .b (bi P.pt)]
theorem twopt_eq (P Q : E2) (r : Bool) (h : r = true ↔ P = Q) : r = true ↔ pt2 P = pt2 Q := by
  rw [h]
  exact ⟨fun e => by rw [e], fun e => EP.ext' (gs_inj2 e)⟩
set_option maxRecDepth 20000 in
set_option maxHeartbeats 4000000 in
theorem first2_v (w : World) :
    Calls Tryz.prog 53 #[] w (Is (sv [.v (.func (.func 17) #[] #[]), .v (.func (.func 21) #[] #[]), .v (.func (.func 23) #[] #[]), .v (.func (.func 22) #[] #[]), .i .i64 12]) w) := by
  go_enter Tryz.func53, Tryz.ntmps53
  refine wp_seq (region_c 1 (fun _ => 87) (fun _ => 0) (fun _ => 0) (fun _ => segs [.v (.nilFunc), .v (.nilFunc), .v (.nilFunc), .v (.nilFunc), .i .i64 0]) (fun _ => segs [.v (.nilFunc), .v (.nilFunc), .v (.nilFunc), .v (.nilFunc), .i .i64 0]) [0] (fun γ => [.pointer (some ⟨γ 0, 0, none⟩)]) ?_ ?_)
  · refine GSteps.cons (gm_box 0 rfl (fun _ => rfl) (fun _ _ => rfl) (fun γ w h => ex_allocs (l := [.v (.nilFunc), .v (.nilFunc), .v (.nilFunc), .v (.nilFunc), .i .i64 0]) zSc2) rfl rfl rfl) ?_
    exact GSteps.nil
  intro γ1 w1 hb1 hB1 _
  refine th_r ?_
  have A2 : SB 87 w1 (γ1 0) [.v (.nilFunc), .v (.nilFunc), .v (.nilFunc), .v (.nilFunc), .i .i64 0] := (hB1 0 (by decide)).2
  have le2 := (hB1 0 (by decide)).1
  have HB3 := below_then (Below.refl w.heap.size w) hb1.out
  refine wp_seq (region_s 1 ((γ1 0)) 0 (segs [.v (.func (.func 17) #[] #[]), .v (.func (.func 21) #[] #[]), .v (.func (.func 23) #[] #[]), .v (.func (.func 22) #[] #[]), .i .i64 12]) [1] [sv [.v (.func (.func 17) #[] #[]), .v (.func (.func 21) #[] #[]), .v (.func (.func 23) #[] #[]), .v (.func (.func 22) #[] #[]), .i .i64 12]] ?_ ?_)
  · refine latv (fun γ w h => ex_builds stSc2 (l := [.v (.func (.func 17) #[] #[]), .v (.func (.func 21) #[] #[]), .v (.func (.func 23) #[] #[]), .v (.func (.func 22) #[] #[]), .i .i64 12]) (vs := [(0, .func (.func 17) #[] #[]), (1, .func (.func 21) #[] #[]), (2, .func (.func 23) #[] #[]), (3, .func (.func 22) #[] #[]), (4, .int .i64 12)]) rfl ((fills_cons 0 1 (m := [.v (.func (.func 17) #[] #[])]) (z' := [.v (.func (.func 17) #[] #[]), .v (.nilFunc), .v (.nilFunc), .v (.nilFunc), .i .i64 0]) rfl rfl rfl rfl rfl rfl).trans ((fills_cons 1 1 (m := [.v (.func (.func 21) #[] #[])]) (z' := [.v (.func (.func 17) #[] #[]), .v (.func (.func 21) #[] #[]), .v (.nilFunc), .v (.nilFunc), .i .i64 0]) rfl rfl rfl rfl rfl rfl).trans ((fills_cons 2 1 (m := [.v (.func (.func 23) #[] #[])]) (z' := [.v (.func (.func 17) #[] #[]), .v (.func (.func 21) #[] #[]), .v (.func (.func 23) #[] #[]), .v (.nilFunc), .i .i64 0]) rfl rfl rfl rfl rfl rfl).trans ((fills_cons 3 1 (m := [.v (.func (.func 22) #[] #[])]) (z' := [.v (.func (.func 17) #[] #[]), .v (.func (.func 21) #[] #[]), .v (.func (.func 23) #[] #[]), .v (.func (.func 22) #[] #[]), .i .i64 0]) rfl rfl rfl rfl rfl rfl).trans ((fills_cons 4 1 (m := [.i .i64 12]) (z' := [.v (.func (.func 17) #[] #[]), .v (.func (.func 21) #[] #[]), .v (.func (.func 23) #[] #[]), .v (.func (.func 22) #[] #[]), .i .i64 12]) rfl (int_cells .i64 12) rfl rfl rfl rfl).trans rfl)))))) ?_
    refine GSteps.cons (late_store rfl (fun _ => rfl) (fun γ w h => ex_stores 0 5 (l := [.v (.nilFunc), .v (.nilFunc), .v (.nilFunc), .v (.nilFunc), .i .i64 0]) (m := [.v (.func (.func 17) #[] #[]), .v (.func (.func 21) #[] #[]), .v (.func (.func 23) #[] #[]), .v (.func (.func 22) #[] #[]), .i .i64 12]) flSc2.2 rfl rfl rfl rfl (A2.keep h.out) rfl rfl) rfl) ?_
    exact GSteps.nil
  intro w4 w4_ hb4 hs4
  refine th_r ?_
  have A5 := A2.keep hb4.out
  have HB6 := below_then HB3 hb4.out
  have A7 := hs4.here 0 5 (l' := [.v (.func (.func 17) #[] #[]), .v (.func (.func 21) #[] #[]), .v (.func (.func 23) #[] #[]), .v (.func (.func 22) #[] #[]), .i .i64 12]) A5 rfl rfl rfl
  have HB8 := hs4.below HB6 (Nat.le_trans (Nat.le_refl _) le2)
  exact wp_ret (bodyPost_ret (ret1 Tryz.results53 (res_sv rfl A7 flSc2 rfl)) rfl ⟨rfl, HB8⟩)
set_option maxRecDepth 20000 in
set_option maxHeartbeats 4000000 in
theorem scPlus2_z1 (P Q : E2) (h1 : P = Z2) (w : World) :
    Calls Tryz.prog 145 #[sv [.v (.func (.func 17) #[] #[]), .v (.func (.func 21) #[] #[]), .v (.func (.func 23) #[] #[]), .v (.func (.func 22) #[] #[]), .i .i64 12], sv [.n 6 (bx0 P.pt), .n 6 (bx1 P.pt), .n 6 (by0 P.pt), .n 6 (by1 P.pt), .b (bi P.pt)], sv [.n 6 (bx0 Q.pt), .n 6 (bx1 Q.pt), .n 6 (by0 Q.pt), .n 6 (by1 Q.pt), .b (bi Q.pt)]] w (Is (sv [.n 6 (bx0 Q.pt), .n 6 (bx1 Q.pt), .n 6 (by0 Q.pt), .n 6 (by1 Q.pt), .b (bi Q.pt)]) w) := by
  go_enter Tryz.func145, Tryz.ntmps145
  refine wp_seq (region_c 4 (fun j_ => match j_ with | 0 => 87 | 1 => 30 | 2 => 30 | _ => 30) (fun j_ => match j_ with | 0 => 0 | 1 => 1 | 2 => 2 | _ => 3) (fun j_ => match j_ with | 0 => 0 | 1 => 1 | 2 => 2 | _ => 3) (fun j_ => match j_ with | 0 => segs [.v (.func (.func 17) #[] #[]), .v (.func (.func 21) #[] #[]), .v (.func (.func 23) #[] #[]), .v (.func (.func 22) #[] #[]), .i .i64 12] | 1 => segs [.n 6 (bx0 P.pt), .n 6 (bx1 P.pt), .n 6 (by0 P.pt), .n 6 (by1 P.pt), .b (bi P.pt)] | 2 => segs [.n 6 (bx0 Q.pt), .n 6 (bx1 Q.pt), .n 6 (by0 Q.pt), .n 6 (by1 Q.pt), .b (bi Q.pt)] | _ => segs [.n 6 0, .n 6 0, .n 6 0, .n 6 0, .b false]) (fun j_ => match j_ with | 0 => segs [.v (.func (.func 17) #[] #[]), .v (.func (.func 21) #[] #[]), .v (.func (.func 23) #[] #[]), .v (.func (.func 22) #[] #[]), .i .i64 12] | 1 => segs [.n 6 (bx0 P.pt), .n 6 (bx1 P.pt), .n 6 (by0 P.pt), .n 6 (by1 P.pt), .b (bi P.pt)] | 2 => segs [.n 6 (bx0 Q.pt), .n 6 (bx1 Q.pt), .n 6 (by0 Q.pt), .n 6 (by1 Q.pt), .b (bi Q.pt)] | _ => segs [.n 6 0, .n 6 0, .n 6 0, .n 6 0, .b false]) [3, 4, 5, 6] (fun γ => [.pointer (some ⟨γ 0, 0, none⟩), .pointer (some ⟨γ 1, 0, none⟩), .pointer (some ⟨γ 2, 0, none⟩), .pointer (some ⟨γ 3, 0, none⟩)]) ?_ ?_)
  · refine GSteps.cons (gm_box 0 rfl (fun _ => rfl) (fun _ _ => rfl) (fun γ w h => ex_boxs (l := [.v (.func (.func 17) #[] #[]), .v (.func (.func 21) #[] #[]), .v (.func (.func 23) #[] #[]), .v (.func (.func 22) #[] #[]), .i .i64 12]) rfl) rfl rfl rfl) ?_
    refine GSteps.cons (gm_box 1 rfl (fun _ => rfl) (fun _ _ => rfl) (fun γ w h => ex_boxs (l := [.n 6 (bx0 P.pt), .n 6 (bx1 P.pt), .n 6 (by0 P.pt), .n 6 (by1 P.pt), .b (bi P.pt)]) rfl) rfl rfl rfl) ?_
    refine GSteps.cons (gm_box 2 rfl (fun _ => rfl) (fun _ _ => rfl) (fun γ w h => ex_boxs (l := [.n 6 (bx0 Q.pt), .n 6 (bx1 Q.pt), .n 6 (by0 Q.pt), .n 6 (by1 Q.pt), .b (bi Q.pt)]) rfl) rfl rfl rfl) ?_
    refine GSteps.cons (gm_box 3 rfl (fun _ => rfl) (fun _ _ => rfl) (fun γ w h => ex_allocs (l := [.n 6 0, .n 6 0, .n 6 0, .n 6 0, .b false]) zG2) rfl rfl rfl) ?_
    exact GSteps.nil
  intro γ1 w1 hb1 hB1 hn1
  refine th_r ?_
  have A2 : SB 87 w1 (γ1 0) [.v (.func (.func 17) #[] #[]), .v (.func (.func 21) #[] #[]), .v (.func (.func 23) #[] #[]), .v (.func (.func 22) #[] #[]), .i .i64 12] := (hB1 0 (by decide)).2
  have le2 := (hB1 0 (by decide)).1
  have A3 : SB 30 w1 (γ1 1) [.n 6 (bx0 P.pt), .n 6 (bx1 P.pt), .n 6 (by0 P.pt), .n 6 (by1 P.pt), .b (bi P.pt)] := (hB1 1 (by decide)).2
  have le3 := (hB1 1 (by decide)).1
  have A4 : SB 30 w1 (γ1 2) [.n 6 (bx0 Q.pt), .n 6 (bx1 Q.pt), .n 6 (by0 Q.pt), .n 6 (by1 Q.pt), .b (bi Q.pt)] := (hB1 2 (by decide)).2
  have le4 := (hB1 2 (by decide)).1
  have A5 : SB 30 w1 (γ1 3) [.n 6 0, .n 6 0, .n 6 0, .n 6 0, .b false] := (hB1 3 (by decide)).2
  have le5 := (hB1 3 (by decide)).1
  have HB6 := below_then (Below.refl w.heap.size w) hb1.out
  refine wp_seq ?_
  refine wp_seq (region_0 [9, 10, 11, 12, 13] [sv [.n 6 (bx0 P.pt), .n 6 (bx1 P.pt), .n 6 (by0 P.pt), .n 6 (by1 P.pt), .b (bi P.pt)], .pointer (some ⟨(γ1 0), 1, none⟩), .func (.func 21) #[] #[], sv [.n 6 (bx0 Z2.pt), .n 6 (bx1 Z2.pt), .n 6 (by0 Z2.pt), .n 6 (by1 Z2.pt), .b (bi Z2.pt)], .bool true] ?_ ?_)
  · refine stpv (fun γ w h => ex_loads 0 5 (m := [.n 6 (bx0 P.pt), .n 6 (bx1 P.pt), .n 6 (by0 P.pt), .n 6 (by1 P.pt), .b (bi P.pt)]) flG2 rfl rfl (A3.keep h.out) rfl rfl) ?_
    refine stpx (fun _ _ => ex_field faSc2_1 rfl) ?_
    refine stpv (fun γ w h => ex_load1 1 (s := .v (.func (.func 21) #[] #[])) (v := .func (.func 21) #[] #[]) sgF2_1 rfl (A2.keep h.out) rfl rfl rfl) ?_
    refine stpc (sv [.n 6 (bx0 Z2.pt), .n 6 (bx1 Z2.pt), .n 6 (by0 Z2.pt), .n 6 (by1 Z2.pt), .b (bi Z2.pt)]) (fun γ w => ex_call (vs := []) rfl Tryz.call21 rfl) (fun w h => twoZero_p _) ?_
    refine stpx (fun _ _ => ex_eqs gdG2 eqG2 rfl rfl rfl (shG2_of (bx0_B P.pt) (bx1_B P.pt) (by0_B P.pt) (by1_B P.pt)) (shG2_of (bx0_B Z2.pt) (bx1_B Z2.pt) (by0_B Z2.pt) (by1_B Z2.pt)) true (twopt_eq P Z2 true (by simp [h1]))) ?_
    exact GSteps.nil
  intro w7 hb7
  refine th_r ?_
  have A8 := A2.keep hb7.out
  have A9 := A3.keep hb7.out
  have A10 := A4.keep hb7.out
  have A11 := A5.keep hb7.out
  have HB12 := below_then HB6 hb7.out
  refine wp_cond_true rfl ?_
  refine wp_seq (region_s 1 ((γ1 3)) 0 (segs [.n 6 (bx0 Q.pt), .n 6 (bx1 Q.pt), .n 6 (by0 Q.pt), .n 6 (by1 Q.pt), .b (bi Q.pt)]) [14] [sv [.n 6 (bx0 Q.pt), .n 6 (bx1 Q.pt), .n 6 (by0 Q.pt), .n 6 (by1 Q.pt), .b (bi Q.pt)]] ?_ ?_)
  · refine latv (fun γ w h => ex_loads 0 5 (m := [.n 6 (bx0 Q.pt), .n 6 (bx1 Q.pt), .n 6 (by0 Q.pt), .n 6 (by1 Q.pt), .b (bi Q.pt)]) flG2 rfl rfl (A10.keep h.out) rfl rfl) ?_
    refine GSteps.cons (late_store rfl (fun _ => rfl) (fun γ w h => ex_stores 0 5 (l := [.n 6 0, .n 6 0, .n 6 0, .n 6 0, .b false]) (m := [.n 6 (bx0 Q.pt), .n 6 (bx1 Q.pt), .n 6 (by0 Q.pt), .n 6 (by1 Q.pt), .b (bi Q.pt)]) flG2.2 rfl rfl rfl rfl (A11.keep h.out) rfl rfl) rfl) ?_
    exact GSteps.nil
  intro w13 w13_ hb13 hs13
  refine th_r ?_
  have A14 := A8.keep hb13.out
  have A15 := A9.keep hb13.out
  have A16 := A10.keep hb13.out
  have A17 := A11.keep hb13.out
  have HB18 := below_then HB12 hb13.out
  have A19 := hs13.other (hn1 0 3 (by decide) (by decide) (by decide)) A14
  have A20 := hs13.other (hn1 1 3 (by decide) (by decide) (by decide)) A15
  have A21 := hs13.other (hn1 2 3 (by decide) (by decide) (by decide)) A16
  have A22 := hs13.here 0 5 (l' := [.n 6 (bx0 Q.pt), .n 6 (bx1 Q.pt), .n 6 (by0 Q.pt), .n 6 (by1 Q.pt), .b (bi Q.pt)]) A17 rfl rfl rfl
  have HB23 := hs13.below HB18 (Nat.le_trans (Nat.le_refl _) le5)
  exact wp_ret (th_ret (bodyPost_ret (ret1 Tryz.results145 (res_sv rfl A22 flG2 rfl)) rfl ⟨rfl, HB23⟩))
set_option maxRecDepth 20000 in
set_option maxHeartbeats 4000000 in
theorem scPlus2_z2 (P Q : E2) (h1 : ¬ P = Z2) (h2 : Q = Z2) (w : World) :
    Calls Tryz.prog 145 #[sv [.v (.func (.func 17) #[] #[]), .v (.func (.func 21) #[] #[]), .v (.func (.func 23) #[] #[]), .v (.func (.func 22) #[] #[]), .i .i64 12], sv [.n 6 (bx0 P.pt), .n 6 (bx1 P.pt), .n 6 (by0 P.pt), .n 6 (by1 P.pt), .b (bi P.pt)], sv [.n 6 (bx0 Q.pt), .n 6 (bx1 Q.pt), .n 6 (by0 Q.pt), .n 6 (by1 Q.pt), .b (bi Q.pt)]] w (Is (sv [.n 6 (bx0 P.pt), .n 6 (bx1 P.pt), .n 6 (by0 P.pt), .n 6 (by1 P.pt), .b (bi P.pt)]) w) := by
  go_enter Tryz.func145, Tryz.ntmps145
  refine wp_seq (region_c 4 (fun j_ => match j_ with | 0 => 87 | 1 => 30 | 2 => 30 | _ => 30) (fun j_ => match j_ with | 0 => 0 | 1 => 1 | 2 => 2 | _ => 3) (fun j_ => match j_ with | 0 => 0 | 1 => 1 | 2 => 2 | _ => 3) (fun j_ => match j_ with | 0 => segs [.v (.func (.func 17) #[] #[]), .v (.func (.func 21) #[] #[]), .v (.func (.func 23) #[] #[]), .v (.func (.func 22) #[] #[]), .i .i64 12] | 1 => segs [.n 6 (bx0 P.pt), .n 6 (bx1 P.pt), .n 6 (by0 P.pt), .n 6 (by1 P.pt), .b (bi P.pt)] | 2 => segs [.n 6 (bx0 Q.pt), .n 6 (bx1 Q.pt), .n 6 (by0 Q.pt), .n 6 (by1 Q.pt), .b (bi Q.pt)] | _ => segs [.n 6 0, .n 6 0, .n 6 0, .n 6 0, .b false]) (fun j_ => match j_ with | 0 => segs [.v (.func (.func 17) #[] #[]), .v (.func (.func 21) #[] #[]), .v (.func (.func 23) #[] #[]), .v (.func (.func 22) #[] #[]), .i .i64 12] | 1 => segs [.n 6 (bx0 P.pt), .n 6 (bx1 P.pt), .n 6 (by0 P.pt), .n 6 (by1 P.pt), .b (bi P.pt)] | 2 => segs [.n 6 (bx0 Q.pt), .n 6 (bx1 Q.pt), .n 6 (by0 Q.pt), .n 6 (by1 Q.pt), .b (bi Q.pt)] | _ => segs [.n 6 0, .n 6 0, .n 6 0, .n 6 0, .b false]) [3, 4, 5, 6] (fun γ => [.pointer (some ⟨γ 0, 0, none⟩), .pointer (some ⟨γ 1, 0, none⟩), .pointer (some ⟨γ 2, 0, none⟩), .pointer (some ⟨γ 3, 0, none⟩)]) ?_ ?_)
  · refine GSteps.cons (gm_box 0 rfl (fun _ => rfl) (fun _ _ => rfl) (fun γ w h => ex_boxs (l := [.v (.func (.func 17) #[] #[]), .v (.func (.func 21) #[] #[]), .v (.func (.func 23) #[] #[]), .v (.func (.func 22) #[] #[]), .i .i64 12]) rfl) rfl rfl rfl) ?_
    refine GSteps.cons (gm_box 1 rfl (fun _ => rfl) (fun _ _ => rfl) (fun γ w h => ex_boxs (l := [.n 6 (bx0 P.pt), .n 6 (bx1 P.pt), .n 6 (by0 P.pt), .n 6 (by1 P.pt), .b (bi P.pt)]) rfl) rfl rfl rfl) ?_
    refine GSteps.cons (gm_box 2 rfl (fun _ => rfl) (fun _ _ => rfl) (fun γ w h => ex_boxs (l := [.n 6 (bx0 Q.pt), .n 6 (bx1 Q.pt), .n 6 (by0 Q.pt), .n 6 (by1 Q.pt), .b (bi Q.pt)]) rfl) rfl rfl rfl) ?_
    refine GSteps.cons (gm_box 3 rfl (fun _ => rfl) (fun _ _ => rfl) (fun γ w h => ex_allocs (l := [.n 6 0, .n 6 0, .n 6 0, .n 6 0, .b false]) zG2) rfl rfl rfl) ?_
    exact GSteps.nil
  intro γ1 w1 hb1 hB1 hn1
  refine th_r ?_
  have A2 : SB 87 w1 (γ1 0) [.v (.func (.func 17) #[] #[]), .v (.func (.func 21) #[] #[]), .v (.func (.func 23) #[] #[]), .v (.func (.func 22) #[] #[]), .i .i64 12] := (hB1 0 (by decide)).2
  have le2 := (hB1 0 (by decide)).1
  have A3 : SB 30 w1 (γ1 1) [.n 6 (bx0 P.pt), .n 6 (bx1 P.pt), .n 6 (by0 P.pt), .n 6 (by1 P.pt), .b (bi P.pt)] := (hB1 1 (by decide)).2
  have le3 := (hB1 1 (by decide)).1
  have A4 : SB 30 w1 (γ1 2) [.n 6 (bx0 Q.pt), .n 6 (bx1 Q.pt), .n 6 (by0 Q.pt), .n 6 (by1 Q.pt), .b (bi Q.pt)] := (hB1 2 (by decide)).2
  have le4 := (hB1 2 (by decide)).1
  have A5 : SB 30 w1 (γ1 3) [.n 6 0, .n 6 0, .n 6 0, .n 6 0, .b false] := (hB1 3 (by decide)).2
  have le5 := (hB1 3 (by decide)).1
  have HB6 := below_then (Below.refl w.heap.size w) hb1.out
  refine wp_seq ?_
  refine wp_seq (region_0 [9, 10, 11, 12, 13] [sv [.n 6 (bx0 P.pt), .n 6 (bx1 P.pt), .n 6 (by0 P.pt), .n 6 (by1 P.pt), .b (bi P.pt)], .pointer (some ⟨(γ1 0), 1, none⟩), .func (.func 21) #[] #[], sv [.n 6 (bx0 Z2.pt), .n 6 (bx1 Z2.pt), .n 6 (by0 Z2.pt), .n 6 (by1 Z2.pt), .b (bi Z2.pt)], .bool false] ?_ ?_)
  · refine stpv (fun γ w h => ex_loads 0 5 (m := [.n 6 (bx0 P.pt), .n 6 (bx1 P.pt), .n 6 (by0 P.pt), .n 6 (by1 P.pt), .b (bi P.pt)]) flG2 rfl rfl (A3.keep h.out) rfl rfl) ?_
    refine stpx (fun _ _ => ex_field faSc2_1 rfl) ?_
    refine stpv (fun γ w h => ex_load1 1 (s := .v (.func (.func 21) #[] #[])) (v := .func (.func 21) #[] #[]) sgF2_1 rfl (A2.keep h.out) rfl rfl rfl) ?_
    refine stpc (sv [.n 6 (bx0 Z2.pt), .n 6 (bx1 Z2.pt), .n 6 (by0 Z2.pt), .n 6 (by1 Z2.pt), .b (bi Z2.pt)]) (fun γ w => ex_call (vs := []) rfl Tryz.call21 rfl) (fun w h => twoZero_p _) ?_
    refine stpx (fun _ _ => ex_eqs gdG2 eqG2 rfl rfl rfl (shG2_of (bx0_B P.pt) (bx1_B P.pt) (by0_B P.pt) (by1_B P.pt)) (shG2_of (bx0_B Z2.pt) (bx1_B Z2.pt) (by0_B Z2.pt) (by1_B Z2.pt)) false (twopt_eq P Z2 false (by simp [h1]))) ?_
    exact GSteps.nil
  intro w7 hb7
  refine th_r ?_
  have A8 := A2.keep hb7.out
  have A9 := A3.keep hb7.out
  have A10 := A4.keep hb7.out
  have A11 := A5.keep hb7.out
  have HB12 := below_then HB6 hb7.out
  refine wp_cond_false rfl ?_
  refine wp_skip ?_
  refine th_r ?_
  refine wp_seq ?_
  refine wp_seq (region_0 [15, 16, 17, 18, 19] [sv [.n 6 (bx0 Q.pt), .n 6 (bx1 Q.pt), .n 6 (by0 Q.pt), .n 6 (by1 Q.pt), .b (bi Q.pt)], .pointer (some ⟨(γ1 0), 1, none⟩), .func (.func 21) #[] #[], sv [.n 6 (bx0 Z2.pt), .n 6 (bx1 Z2.pt), .n 6 (by0 Z2.pt), .n 6 (by1 Z2.pt), .b (bi Z2.pt)], .bool true] ?_ ?_)
  · refine stpv (fun γ w h => ex_loads 0 5 (m := [.n 6 (bx0 Q.pt), .n 6 (bx1 Q.pt), .n 6 (by0 Q.pt), .n 6 (by1 Q.pt), .b (bi Q.pt)]) flG2 rfl rfl (A10.keep h.out) rfl rfl) ?_
    refine stpx (fun _ _ => ex_field faSc2_1 rfl) ?_
    refine stpv (fun γ w h => ex_load1 1 (s := .v (.func (.func 21) #[] #[])) (v := .func (.func 21) #[] #[]) sgF2_1 rfl (A8.keep h.out) rfl rfl rfl) ?_
    refine stpc (sv [.n 6 (bx0 Z2.pt), .n 6 (bx1 Z2.pt), .n 6 (by0 Z2.pt), .n 6 (by1 Z2.pt), .b (bi Z2.pt)]) (fun γ w => ex_call (vs := []) rfl Tryz.call21 rfl) (fun w h => twoZero_p _) ?_
    refine stpx (fun _ _ => ex_eqs gdG2 eqG2 rfl rfl rfl (shG2_of (bx0_B Q.pt) (bx1_B Q.pt) (by0_B Q.pt) (by1_B Q.pt)) (shG2_of (bx0_B Z2.pt) (bx1_B Z2.pt) (by0_B Z2.pt) (by1_B Z2.pt)) true (twopt_eq Q Z2 true (by simp [h2]))) ?_
    exact GSteps.nil
  intro w13 hb13
  refine th_r ?_
  have A14 := A8.keep hb13.out
  have A15 := A9.keep hb13.out
  have A16 := A10.keep hb13.out
  have A17 := A11.keep hb13.out
  have HB18 := below_then HB12 hb13.out
  refine wp_cond_true rfl ?_
  refine wp_seq (region_s 1 ((γ1 3)) 0 (segs [.n 6 (bx0 P.pt), .n 6 (bx1 P.pt), .n 6 (by0 P.pt), .n 6 (by1 P.pt), .b (bi P.pt)]) [20] [sv [.n 6 (bx0 P.pt), .n 6 (bx1 P.pt), .n 6 (by0 P.pt), .n 6 (by1 P.pt), .b (bi P.pt)]] ?_ ?_)
  · refine latv (fun γ w h => ex_loads 0 5 (m := [.n 6 (bx0 P.pt), .n 6 (bx1 P.pt), .n 6 (by0 P.pt), .n 6 (by1 P.pt), .b (bi P.pt)]) flG2 rfl rfl (A15.keep h.out) rfl rfl) ?_
    refine GSteps.cons (late_store rfl (fun _ => rfl) (fun γ w h => ex_stores 0 5 (l := [.n 6 0, .n 6 0, .n 6 0, .n 6 0, .b false]) (m := [.n 6 (bx0 P.pt), .n 6 (bx1 P.pt), .n 6 (by0 P.pt), .n 6 (by1 P.pt), .b (bi P.pt)]) flG2.2 rfl rfl rfl rfl (A17.keep h.out) rfl rfl) rfl) ?_
    exact GSteps.nil
  intro w19 w19_ hb19 hs19
  refine th_r ?_
  have A20 := A14.keep hb19.out
  have A21 := A15.keep hb19.out
  have A22 := A16.keep hb19.out
  have A23 := A17.keep hb19.out
  have HB24 := below_then HB18 hb19.out
  have A25 := hs19.other (hn1 0 3 (by decide) (by decide) (by decide)) A20
  have A26 := hs19.other (hn1 1 3 (by decide) (by decide) (by decide)) A21
  have A27 := hs19.other (hn1 2 3 (by decide) (by decide) (by decide)) A22
  have A28 := hs19.here 0 5 (l' := [.n 6 (bx0 P.pt), .n 6 (bx1 P.pt), .n 6 (by0 P.pt), .n 6 (by1 P.pt), .b (bi P.pt)]) A23 rfl rfl rfl
  have HB29 := hs19.below HB24 (Nat.le_trans (Nat.le_refl _) le5)
  exact wp_ret (th_ret (bodyPost_ret (ret1 Tryz.results145 (res_sv rfl A28 flG2 rfl)) rfl ⟨rfl, HB29⟩))
set_option maxRecDepth 20000 in
set_option maxHeartbeats 4000000 in
theorem scPlus2_no (P Q R : E2) (h1 : ¬ P = Z2) (h2 : ¬ Q = Z2) (hs : P.add C2 Q = R) (w : World) :
    Calls Tryz.prog 145 #[sv [.v (.func (.func 17) #[] #[]), .v (.func (.func 21) #[] #[]), .v (.func (.func 23) #[] #[]), .v (.func (.func 22) #[] #[]), .i .i64 12], sv [.n 6 (bx0 P.pt), .n 6 (bx1 P.pt), .n 6 (by0 P.pt), .n 6 (by1 P.pt), .b (bi P.pt)], sv [.n 6 (bx0 Q.pt), .n 6 (bx1 Q.pt), .n 6 (by0 Q.pt), .n 6 (by1 Q.pt), .b (bi Q.pt)]] w (Is (sv [.n 6 (bx0 R.pt), .n 6 (bx1 R.pt), .n 6 (by0 R.pt), .n 6 (by1 R.pt), .b (bi R.pt)]) w) := by
  go_enter Tryz.func145, Tryz.ntmps145
  refine wp_seq (region_c 4 (fun j_ => match j_ with | 0 => 87 | 1 => 30 | 2 => 30 | _ => 30) (fun j_ => match j_ with | 0 => 0 | 1 => 1 | 2 => 2 | _ => 3) (fun j_ => match j_ with | 0 => 0 | 1 => 1 | 2 => 2 | _ => 3) (fun j_ => match j_ with | 0 => segs [.v (.func (.func 17) #[] #[]), .v (.func (.func 21) #[] #[]), .v (.func (.func 23) #[] #[]), .v (.func (.func 22) #[] #[]), .i .i64 12] | 1 => segs [.n 6 (bx0 P.pt), .n 6 (bx1 P.pt), .n 6 (by0 P.pt), .n 6 (by1 P.pt), .b (bi P.pt)] | 2 => segs [.n 6 (bx0 Q.pt), .n 6 (bx1 Q.pt), .n 6 (by0 Q.pt), .n 6 (by1 Q.pt), .b (bi Q.pt)] | _ => segs [.n 6 0, .n 6 0, .n 6 0, .n 6 0, .b false]) (fun j_ => match j_ with | 0 => segs [.v (.func (.func 17) #[] #[]), .v (.func (.func 21) #[] #[]), .v (.func (.func 23) #[] #[]), .v (.func (.func 22) #[] #[]), .i .i64 12] | 1 => segs [.n 6 (bx0 P.pt), .n 6 (bx1 P.pt), .n 6 (by0 P.pt), .n 6 (by1 P.pt), .b (bi P.pt)] | 2 => segs [.n 6 (bx0 Q.pt), .n 6 (bx1 Q.pt), .n 6 (by0 Q.pt), .n 6 (by1 Q.pt), .b (bi Q.pt)] | _ => segs [.n 6 0, .n 6 0, .n 6 0, .n 6 0, .b false]) [3, 4, 5, 6] (fun γ => [.pointer (some ⟨γ 0, 0, none⟩), .pointer (some ⟨γ 1, 0, none⟩), .pointer (some ⟨γ 2, 0, none⟩), .pointer (some ⟨γ 3, 0, none⟩)]) ?_ ?_)
  · refine GSteps.cons (gm_box 0 rfl (fun _ => rfl) (fun _ _ => rfl) (fun γ w h => ex_boxs (l := [.v (.func (.func 17) #[] #[]), .v (.func (.func 21) #[] #[]), .v (.func (.func 23) #[] #[]), .v (.func (.func 22) #[] #[]), .i .i64 12]) rfl) rfl rfl rfl) ?_
    refine GSteps.cons (gm_box 1 rfl (fun _ => rfl) (fun _ _ => rfl) (fun γ w h => ex_boxs (l := [.n 6 (bx0 P.pt), .n 6 (bx1 P.pt), .n 6 (by0 P.pt), .n 6 (by1 P.pt), .b (bi P.pt)]) rfl) rfl rfl rfl) ?_
    refine GSteps.cons (gm_box 2 rfl (fun _ => rfl) (fun _ _ => rfl) (fun γ w h => ex_boxs (l := [.n 6 (bx0 Q.pt), .n 6 (bx1 Q.pt), .n 6 (by0 Q.pt), .n 6 (by1 Q.pt), .b (bi Q.pt)]) rfl) rfl rfl rfl) ?_
    refine GSteps.cons (gm_box 3 rfl (fun _ => rfl) (fun _ _ => rfl) (fun γ w h => ex_allocs (l := [.n 6 0, .n 6 0, .n 6 0, .n 6 0, .b false]) zG2) rfl rfl rfl) ?_
    exact GSteps.nil
  intro γ1 w1 hb1 hB1 hn1
  refine th_r ?_
  have A2 : SB 87 w1 (γ1 0) [.v (.func (.func 17) #[] #[]), .v (.func (.func 21) #[] #[]), .v (.func (.func 23) #[] #[]), .v (.func (.func 22) #[] #[]), .i .i64 12] := (hB1 0 (by decide)).2
  have le2 := (hB1 0 (by decide)).1
  have A3 : SB 30 w1 (γ1 1) [.n 6 (bx0 P.pt), .n 6 (bx1 P.pt), .n 6 (by0 P.pt), .n 6 (by1 P.pt), .b (bi P.pt)] := (hB1 1 (by decide)).2
  have le3 := (hB1 1 (by decide)).1
  have A4 : SB 30 w1 (γ1 2) [.n 6 (bx0 Q.pt), .n 6 (bx1 Q.pt), .n 6 (by0 Q.pt), .n 6 (by1 Q.pt), .b (bi Q.pt)] := (hB1 2 (by decide)).2
  have le4 := (hB1 2 (by decide)).1
  have A5 : SB 30 w1 (γ1 3) [.n 6 0, .n 6 0, .n 6 0, .n 6 0, .b false] := (hB1 3 (by decide)).2
  have le5 := (hB1 3 (by decide)).1
  have HB6 := below_then (Below.refl w.heap.size w) hb1.out
  refine wp_seq ?_
  refine wp_seq (region_0 [9, 10, 11, 12, 13] [sv [.n 6 (bx0 P.pt), .n 6 (bx1 P.pt), .n 6 (by0 P.pt), .n 6 (by1 P.pt), .b (bi P.pt)], .pointer (some ⟨(γ1 0), 1, none⟩), .func (.func 21) #[] #[], sv [.n 6 (bx0 Z2.pt), .n 6 (bx1 Z2.pt), .n 6 (by0 Z2.pt), .n 6 (by1 Z2.pt), .b (bi Z2.pt)], .bool false] ?_ ?_)
  · refine stpv (fun γ w h => ex_loads 0 5 (m := [.n 6 (bx0 P.pt), .n 6 (bx1 P.pt), .n 6 (by0 P.pt), .n 6 (by1 P.pt), .b (bi P.pt)]) flG2 rfl rfl (A3.keep h.out) rfl rfl) ?_
    refine stpx (fun _ _ => ex_field faSc2_1 rfl) ?_
    refine stpv (fun γ w h => ex_load1 1 (s := .v (.func (.func 21) #[] #[])) (v := .func (.func 21) #[] #[]) sgF2_1 rfl (A2.keep h.out) rfl rfl rfl) ?_
    refine stpc (sv [.n 6 (bx0 Z2.pt), .n 6 (bx1 Z2.pt), .n 6 (by0 Z2.pt), .n 6 (by1 Z2.pt), .b (bi Z2.pt)]) (fun γ w => ex_call (vs := []) rfl Tryz.call21 rfl) (fun w h => twoZero_p _) ?_
    refine stpx (fun _ _ => ex_eqs gdG2 eqG2 rfl rfl rfl (shG2_of (bx0_B P.pt) (bx1_B P.pt) (by0_B P.pt) (by1_B P.pt)) (shG2_of (bx0_B Z2.pt) (bx1_B Z2.pt) (by0_B Z2.pt) (by1_B Z2.pt)) false (twopt_eq P Z2 false (by simp [h1]))) ?_
    exact GSteps.nil
  intro w7 hb7
  refine th_r ?_
  have A8 := A2.keep hb7.out
  have A9 := A3.keep hb7.out
  have A10 := A4.keep hb7.out
  have A11 := A5.keep hb7.out
  have HB12 := below_then HB6 hb7.out
  refine wp_cond_false rfl ?_
  refine wp_skip ?_
  refine th_r ?_
  refine wp_seq ?_
  refine wp_seq (region_0 [15, 16, 17, 18, 19] [sv [.n 6 (bx0 Q.pt), .n 6 (bx1 Q.pt), .n 6 (by0 Q.pt), .n 6 (by1 Q.pt), .b (bi Q.pt)], .pointer (some ⟨(γ1 0), 1, none⟩), .func (.func 21) #[] #[], sv [.n 6 (bx0 Z2.pt), .n 6 (bx1 Z2.pt), .n 6 (by0 Z2.pt), .n 6 (by1 Z2.pt), .b (bi Z2.pt)], .bool false] ?_ ?_)
  · refine stpv (fun γ w h => ex_loads 0 5 (m := [.n 6 (bx0 Q.pt), .n 6 (bx1 Q.pt), .n 6 (by0 Q.pt), .n 6 (by1 Q.pt), .b (bi Q.pt)]) flG2 rfl rfl (A10.keep h.out) rfl rfl) ?_
    refine stpx (fun _ _ => ex_field faSc2_1 rfl) ?_
    refine stpv (fun γ w h => ex_load1 1 (s := .v (.func (.func 21) #[] #[])) (v := .func (.func 21) #[] #[]) sgF2_1 rfl (A8.keep h.out) rfl rfl rfl) ?_
    refine stpc (sv [.n 6 (bx0 Z2.pt), .n 6 (bx1 Z2.pt), .n 6 (by0 Z2.pt), .n 6 (by1 Z2.pt), .b (bi Z2.pt)]) (fun γ w => ex_call (vs := []) rfl Tryz.call21 rfl) (fun w h => twoZero_p _) ?_
    refine stpx (fun _ _ => ex_eqs gdG2 eqG2 rfl rfl rfl (shG2_of (bx0_B Q.pt) (bx1_B Q.pt) (by0_B Q.pt) (by1_B Q.pt)) (shG2_of (bx0_B Z2.pt) (bx1_B Z2.pt) (by0_B Z2.pt) (by1_B Z2.pt)) false (twopt_eq Q Z2 false (by simp [h2]))) ?_
    exact GSteps.nil
  intro w13 hb13
  refine th_r ?_
  have A14 := A8.keep hb13.out
  have A15 := A9.keep hb13.out
  have A16 := A10.keep hb13.out
  have A17 := A11.keep hb13.out
  have HB18 := below_then HB12 hb13.out
  refine wp_cond_false rfl ?_
  refine wp_skip ?_
  refine th_r ?_
  refine wp_seq (region_c 1 (fun _ => 30) (fun _ => 8) (fun _ => 9) (fun _ => segs [.n 6 0, .n 6 0, .n 6 0, .n 6 0, .b false]) (fun _ => segs [.n 6 (bx0 R.pt), .n 6 (bx1 R.pt), .n 6 (by0 R.pt), .n 6 (by1 R.pt), .b (bi R.pt)]) [22, 23, 24, 25, 26, 21, 27, 28, 7, 8] (fun γ => [.pointer (some ⟨(γ1 0), 2, none⟩), .func (.func 23) #[] #[], sv [.n 6 (bx0 P.pt), .n 6 (bx1 P.pt), .n 6 (by0 P.pt), .n 6 (by1 P.pt), .b (bi P.pt)], sv [.n 6 (bx0 Q.pt), .n 6 (bx1 Q.pt), .n 6 (by0 Q.pt), .n 6 (by1 Q.pt), .b (bi Q.pt)], .tuple #[sv [.n 6 (bx0 R.pt), .n 6 (bx1 R.pt), .n 6 (by0 R.pt), .n 6 (by1 R.pt), .b (bi R.pt)], .int .i64 0], .tuple #[sv [.n 6 (bx0 R.pt), .n 6 (bx1 R.pt), .n 6 (by0 R.pt), .n 6 (by1 R.pt), .b (bi R.pt)], .int .i64 0], sv [.n 6 (bx0 R.pt), .n 6 (bx1 R.pt), .n 6 (by0 R.pt), .n 6 (by1 R.pt), .b (bi R.pt)], .int .i64 0, .pointer (some ⟨γ 0, 0, none⟩), .int .i64 0]) ?_ ?_)
  · refine stpx (fun _ _ => ex_field faSc2_2 rfl) ?_
    refine stpv (fun γ w h => ex_load1 2 (s := .v (.func (.func 23) #[] #[])) (v := .func (.func 23) #[] #[]) sgF2_2 rfl (A14.keep h.out) rfl rfl rfl) ?_
    refine stpv (fun γ w h => ex_loads 0 5 (m := [.n 6 (bx0 P.pt), .n 6 (bx1 P.pt), .n 6 (by0 P.pt), .n 6 (by1 P.pt), .b (bi P.pt)]) flG2 rfl rfl (A15.keep h.out) rfl rfl) ?_
    refine stpv (fun γ w h => ex_loads 0 5 (m := [.n 6 (bx0 Q.pt), .n 6 (bx1 Q.pt), .n 6 (by0 Q.pt), .n 6 (by1 Q.pt), .b (bi Q.pt)]) flG2 rfl rfl (A16.keep h.out) rfl rfl) ?_
    refine stpc (.tuple #[sv [.n 6 (bx0 R.pt), .n 6 (bx1 R.pt), .n 6 (by0 R.pt), .n 6 (by1 R.pt), .b (bi R.pt)], .int .i64 0]) (fun γ w => ex_call (vs := [sv [.n 6 (bx0 P.pt), .n 6 (bx1 P.pt), .n 6 (by0 P.pt), .n 6 (by1 P.pt), .b (bi P.pt)], sv [.n 6 (bx0 Q.pt), .n 6 (bx1 Q.pt), .n 6 (by0 Q.pt), .n 6 (by1 Q.pt), .b (bi Q.pt)]]) rfl Tryz.call23 rfl) (fun w h => twoAdd_p P Q R hs _) ?_
    refine stpx (fun _ _ => ex_move _) ?_
    refine stpx (fun _ _ => ex_extract (vs := [sv [.n 6 (bx0 R.pt), .n 6 (bx1 R.pt), .n 6 (by0 R.pt), .n 6 (by1 R.pt), .b (bi R.pt)], .int .i64 0]) rfl rfl) ?_
    refine stpx (fun _ _ => ex_extract (vs := [sv [.n 6 (bx0 R.pt), .n 6 (bx1 R.pt), .n 6 (by0 R.pt), .n 6 (by1 R.pt), .b (bi R.pt)], .int .i64 0]) rfl rfl) ?_
    refine GSteps.cons (gm_new 0 rfl (fun _ => rfl) (fun _ _ => rfl) (fun γ w => ex_allocs (l := [.n 6 0, .n 6 0, .n 6 0, .n 6 0, .b false]) zG2) rfl (by kernel_rfl)) ?_
    refine GSteps.cons (gm_store 0 rfl rfl (fun _ => rfl) (len_segs (l := [.n 6 (bx0 R.pt), .n 6 (bx1 R.pt), .n 6 (by0 R.pt), .n 6 (by1 R.pt), .b (bi R.pt)]) (l' := [.n 6 0, .n 6 0, .n 6 0, .n 6 0, .b false]) rfl) (fun γ w h => ex_stores 0 5 (l := [.n 6 0, .n 6 0, .n 6 0, .n 6 0, .b false]) (m := [.n 6 (bx0 R.pt), .n 6 (bx1 R.pt), .n 6 (by0 R.pt), .n 6 (by1 R.pt), .b (bi R.pt)]) flG2.2 rfl rfl rfl rfl h rfl rfl) rfl rfl (by kernel_rfl)) ?_
    refine stpx (fun _ _ => ex_assign _) ?_
    exact GSteps.nil
  intro γ19 w19 hb19 hB19 _
  refine th_r ?_
  have A20 := A14.keep hb19.out
  have A21 := A15.keep hb19.out
  have A22 := A16.keep hb19.out
  have A23 := A17.keep hb19.out
  have A24 : SB 30 w19 (γ19 0) [.n 6 (bx0 R.pt), .n 6 (bx1 R.pt), .n 6 (by0 R.pt), .n 6 (by1 R.pt), .b (bi R.pt)] := (hB19 0 (by decide)).2
  have le24 := (hB19 0 (by decide)).1
  have HB25 := below_then HB18 hb19.out
  refine wp_seq (region_s 1 ((γ1 3)) 0 (segs [.n 6 (bx0 R.pt), .n 6 (bx1 R.pt), .n 6 (by0 R.pt), .n 6 (by1 R.pt), .b (bi R.pt)]) [29] [sv [.n 6 (bx0 R.pt), .n 6 (bx1 R.pt), .n 6 (by0 R.pt), .n 6 (by1 R.pt), .b (bi R.pt)]] ?_ ?_)
  · refine latv (fun γ w h => ex_loads 0 5 (m := [.n 6 (bx0 R.pt), .n 6 (bx1 R.pt), .n 6 (by0 R.pt), .n 6 (by1 R.pt), .b (bi R.pt)]) flG2 rfl rfl (A24.keep h.out) rfl rfl) ?_
    refine GSteps.cons (late_store rfl (fun _ => rfl) (fun γ w h => ex_stores 0 5 (l := [.n 6 0, .n 6 0, .n 6 0, .n 6 0, .b false]) (m := [.n 6 (bx0 R.pt), .n 6 (bx1 R.pt), .n 6 (by0 R.pt), .n 6 (by1 R.pt), .b (bi R.pt)]) flG2.2 rfl rfl rfl rfl (A23.keep h.out) rfl rfl) rfl) ?_
    exact GSteps.nil
  intro w26 w26_ hb26 hs26
  refine th_r ?_
  have A27 := A20.keep hb26.out
  have A28 := A21.keep hb26.out
  have A29 := A22.keep hb26.out
  have A30 := A23.keep hb26.out
  have A31 := A24.keep hb26.out
  have HB32 := below_then HB25 hb26.out
  have A33 := hs26.other (hn1 0 3 (by decide) (by decide) (by decide)) A27
  have A34 := hs26.other (hn1 1 3 (by decide) (by decide) (by decide)) A28
  have A35 := hs26.other (hn1 2 3 (by decide) (by decide) (by decide)) A29
  have A36 := hs26.here 0 5 (l' := [.n 6 (bx0 R.pt), .n 6 (bx1 R.pt), .n 6 (by0 R.pt), .n 6 (by1 R.pt), .b (bi R.pt)]) A30 rfl rfl rfl
  have A37 := hs26.other (Ne.symm (Nat.ne_of_lt (Nat.lt_of_lt_of_le A17.lt le24))) A31
  have HB38 := hs26.below HB32 (Nat.le_trans (Nat.le_refl _) le5)
  exact wp_ret (bodyPost_ret (ret1 Tryz.results145 (res_sv rfl A36 flG2 rfl)) rfl ⟨rfl, HB38⟩)
theorem scPlus2_p (P Q R : E2) (hs : P.add C2 Q = R) (w : World) : Calls Tryz.prog 145 #[sv [.v (.func (.func 17) #[] #[]), .v (.func (.func 21) #[] #[]), .v (.func (.func 23) #[] #[]), .v (.func (.func 22) #[] #[]), .i .i64 12], sv [.n 6 (bx0 P.pt), .n 6 (bx1 P.pt), .n 6 (by0 P.pt), .n 6 (by1 P.pt), .b (bi P.pt)], sv [.n 6 (bx0 Q.pt), .n 6 (bx1 Q.pt), .n 6 (by0 Q.pt), .n 6 (by1 Q.pt), .b (bi Q.pt)]] w (Is (sv [.n 6 (bx0 R.pt), .n 6 (bx1 R.pt), .n 6 (by0 R.pt), .n 6 (by1 R.pt), .b (bi R.pt)]) w) := by
  by_cases h1 : P = Z2
  · obtain rfl : Q = R := by rw [← hs, h1]; exact (EP.zero_add _ _).symm
    exact scPlus2_z1 P Q h1 w
  · by_cases h2 : Q = Z2
    · obtain rfl : P = R := by rw [← hs, h2]; exact (EP.add_zero _ _).symm
      exact scPlus2_z2 P Q h1 h2 w
    · exact scPlus2_no P Q R h1 h2 hs w
set_option maxRecDepth 20000 in
set_option maxHeartbeats 4000000 in
theorem scTimes2_p (P R : E2) (k : Nat) (hk : k < frB) (hs : EP.times C2 k P = R) (w : World) :
    Calls Tryz.prog 146 #[sv [.v (.func (.func 17) #[] #[]), .v (.func (.func 21) #[] #[]), .v (.func (.func 23) #[] #[]), .v (.func (.func 22) #[] #[]), .i .i64 12], sv [.n 6 (bx0 P.pt), .n 6 (bx1 P.pt), .n 6 (by0 P.pt), .n 6 (by1 P.pt), .b (bi P.pt)], nv 4 [k]] w (Is (sv [.n 6 (bx0 R.pt), .n 6 (bx1 R.pt), .n 6 (by0 R.pt), .n 6 (by1 R.pt), .b (bi R.pt)]) w) := by
  go_enter Tryz.func146, Tryz.ntmps146
  refine wp_seq (region_c 4 (fun j_ => match j_ with | 0 => 87 | 1 => 30 | 2 => 49 | _ => 30) (fun j_ => match j_ with | 0 => 0 | 1 => 1 | 2 => 2 | _ => 3) (fun j_ => match j_ with | 0 => 0 | 1 => 1 | 2 => 2 | _ => 3) (fun j_ => match j_ with | 0 => segs [.v (.func (.func 17) #[] #[]), .v (.func (.func 21) #[] #[]), .v (.func (.func 23) #[] #[]), .v (.func (.func 22) #[] #[]), .i .i64 12] | 1 => segs [.n 6 (bx0 P.pt), .n 6 (bx1 P.pt), .n 6 (by0 P.pt), .n 6 (by1 P.pt), .b (bi P.pt)] | 2 => segs [.n 4 k] | _ => segs [.n 6 0, .n 6 0, .n 6 0, .n 6 0, .b false]) (fun j_ => match j_ with | 0 => segs [.v (.func (.func 17) #[] #[]), .v (.func (.func 21) #[] #[]), .v (.func (.func 23) #[] #[]), .v (.func (.func 22) #[] #[]), .i .i64 12] | 1 => segs [.n 6 (bx0 P.pt), .n 6 (bx1 P.pt), .n 6 (by0 P.pt), .n 6 (by1 P.pt), .b (bi P.pt)] | 2 => segs [.n 4 k] | _ => segs [.n 6 0, .n 6 0, .n 6 0, .n 6 0, .b false]) [3, 4, 5, 6] (fun γ => [.pointer (some ⟨γ 0, 0, none⟩), .pointer (some ⟨γ 1, 0, none⟩), .pointer (some ⟨γ 2, 0, none⟩), .pointer (some ⟨γ 3, 0, none⟩)]) ?_ ?_)
  · refine GSteps.cons (gm_box 0 rfl (fun _ => rfl) (fun _ _ => rfl) (fun γ w h => ex_boxs (l := [.v (.func (.func 17) #[] #[]), .v (.func (.func 21) #[] #[]), .v (.func (.func 23) #[] #[]), .v (.func (.func 22) #[] #[]), .i .i64 12]) rfl) rfl rfl rfl) ?_
    refine GSteps.cons (gm_box 1 rfl (fun _ => rfl) (fun _ _ => rfl) (fun γ w h => ex_boxs (l := [.n 6 (bx0 P.pt), .n 6 (bx1 P.pt), .n 6 (by0 P.pt), .n 6 (by1 P.pt), .b (bi P.pt)]) rfl) rfl rfl rfl) ?_
    refine GSteps.cons (gm_box 2 rfl (fun _ => rfl) (fun _ _ => rfl) (fun γ w h => ex_boxsn (K := 4) (l := [k]) rfl) rfl rfl rfl) ?_
    refine GSteps.cons (gm_box 3 rfl (fun _ => rfl) (fun _ _ => rfl) (fun γ w h => ex_allocs (l := [.n 6 0, .n 6 0, .n 6 0, .n 6 0, .b false]) zG2) rfl rfl rfl) ?_
    exact GSteps.nil
  intro γ1 w1 hb1 hB1 hn1
  refine th_r ?_
  have A2 : SB 87 w1 (γ1 0) [.v (.func (.func 17) #[] #[]), .v (.func (.func 21) #[] #[]), .v (.func (.func 23) #[] #[]), .v (.func (.func 22) #[] #[]), .i .i64 12] := (hB1 0 (by decide)).2
  have le2 := (hB1 0 (by decide)).1
  have A3 : SB 30 w1 (γ1 1) [.n 6 (bx0 P.pt), .n 6 (bx1 P.pt), .n 6 (by0 P.pt), .n 6 (by1 P.pt), .b (bi P.pt)] := (hB1 1 (by decide)).2
  have le3 := (hB1 1 (by decide)).1
  have A4 : SB 49 w1 (γ1 2) [.n 4 k] := (hB1 2 (by decide)).2
  have le4 := (hB1 2 (by decide)).1
  have A5 : SB 30 w1 (γ1 3) [.n 6 0, .n 6 0, .n 6 0, .n 6 0, .b false] := (hB1 3 (by decide)).2
  have le5 := (hB1 3 (by decide)).1
  have HB6 := below_then (Below.refl w.heap.size w) hb1.out
  refine wp_seq (region_c 1 (fun _ => 30) (fun _ => 8) (fun _ => 9) (fun _ => segs [.n 6 0, .n 6 0, .n 6 0, .n 6 0, .b false]) (fun _ => segs [.n 6 (bx0 R.pt), .n 6 (bx1 R.pt), .n 6 (by0 R.pt), .n 6 (by1 R.pt), .b (bi R.pt)]) [10, 11, 12, 13, 14, 9, 15, 16, 7, 8] (fun γ => [.pointer (some ⟨(γ1 0), 3, none⟩), .func (.func 22) #[] #[], sv [.n 6 (bx0 P.pt), .n 6 (bx1 P.pt), .n 6 (by0 P.pt), .n 6 (by1 P.pt), .b (bi P.pt)], nv 4 [k], .tuple #[sv [.n 6 (bx0 R.pt), .n 6 (bx1 R.pt), .n 6 (by0 R.pt), .n 6 (by1 R.pt), .b (bi R.pt)], .int .i64 0], .tuple #[sv [.n 6 (bx0 R.pt), .n 6 (bx1 R.pt), .n 6 (by0 R.pt), .n 6 (by1 R.pt), .b (bi R.pt)], .int .i64 0], sv [.n 6 (bx0 R.pt), .n 6 (bx1 R.pt), .n 6 (by0 R.pt), .n 6 (by1 R.pt), .b (bi R.pt)], .int .i64 0, .pointer (some ⟨γ 0, 0, none⟩), .int .i64 0]) ?_ ?_)
  · refine stpx (fun _ _ => ex_field faSc2_3 rfl) ?_
    refine stpv (fun γ w h => ex_load1 3 (s := .v (.func (.func 22) #[] #[])) (v := .func (.func 22) #[] #[]) sgF2_3 rfl (A2.keep h.out) rfl rfl rfl) ?_
    refine stpv (fun γ w h => ex_loads 0 5 (m := [.n 6 (bx0 P.pt), .n 6 (bx1 P.pt), .n 6 (by0 P.pt), .n 6 (by1 P.pt), .b (bi P.pt)]) flG2 rfl rfl (A3.keep h.out) rfl rfl) ?_
    refine stpv (fun γ w h => ex_loadsn (K := 4) 0 1 (m := [k]) flFr rfl rfl (A4.keep h.out) rfl rfl) ?_
    refine stpc (.tuple #[sv [.n 6 (bx0 R.pt), .n 6 (bx1 R.pt), .n 6 (by0 R.pt), .n 6 (by1 R.pt), .b (bi R.pt)], .int .i64 0]) (fun γ w => ex_call (vs := [sv [.n 6 (bx0 P.pt), .n 6 (bx1 P.pt), .n 6 (by0 P.pt), .n 6 (by1 P.pt), .b (bi P.pt)], nv 4 [k]]) rfl Tryz.call22 rfl) (fun w h => twoMul_p P R k hk hs _) ?_
    refine stpx (fun _ _ => ex_move _) ?_
    refine stpx (fun _ _ => ex_extract (vs := [sv [.n 6 (bx0 R.pt), .n 6 (bx1 R.pt), .n 6 (by0 R.pt), .n 6 (by1 R.pt), .b (bi R.pt)], .int .i64 0]) rfl rfl) ?_
    refine stpx (fun _ _ => ex_extract (vs := [sv [.n 6 (bx0 R.pt), .n 6 (bx1 R.pt), .n 6 (by0 R.pt), .n 6 (by1 R.pt), .b (bi R.pt)], .int .i64 0]) rfl rfl) ?_
    refine GSteps.cons (gm_new 0 rfl (fun _ => rfl) (fun _ _ => rfl) (fun γ w => ex_allocs (l := [.n 6 0, .n 6 0, .n 6 0, .n 6 0, .b false]) zG2) rfl (by kernel_rfl)) ?_
    refine GSteps.cons (gm_store 0 rfl rfl (fun _ => rfl) (len_segs (l := [.n 6 (bx0 R.pt), .n 6 (bx1 R.pt), .n 6 (by0 R.pt), .n 6 (by1 R.pt), .b (bi R.pt)]) (l' := [.n 6 0, .n 6 0, .n 6 0, .n 6 0, .b false]) rfl) (fun γ w h => ex_stores 0 5 (l := [.n 6 0, .n 6 0, .n 6 0, .n 6 0, .b false]) (m := [.n 6 (bx0 R.pt), .n 6 (bx1 R.pt), .n 6 (by0 R.pt), .n 6 (by1 R.pt), .b (bi R.pt)]) flG2.2 rfl rfl rfl rfl h rfl rfl) rfl rfl (by kernel_rfl)) ?_
    refine stpx (fun _ _ => ex_assign _) ?_
    exact GSteps.nil
  intro γ7 w7 hb7 hB7 _
  refine th_r ?_
  have A8 := A2.keep hb7.out
  have A9 := A3.keep hb7.out
  have A10 := A4.keep hb7.out
  have A11 := A5.keep hb7.out
  have A12 : SB 30 w7 (γ7 0) [.n 6 (bx0 R.pt), .n 6 (bx1 R.pt), .n 6 (by0 R.pt), .n 6 (by1 R.pt), .b (bi R.pt)] := (hB7 0 (by decide)).2
  have le12 := (hB7 0 (by decide)).1
  have HB13 := below_then HB6 hb7.out
  refine wp_seq (region_s 1 ((γ1 3)) 0 (segs [.n 6 (bx0 R.pt), .n 6 (bx1 R.pt), .n 6 (by0 R.pt), .n 6 (by1 R.pt), .b (bi R.pt)]) [17] [sv [.n 6 (bx0 R.pt), .n 6 (bx1 R.pt), .n 6 (by0 R.pt), .n 6 (by1 R.pt), .b (bi R.pt)]] ?_ ?_)
  · refine latv (fun γ w h => ex_loads 0 5 (m := [.n 6 (bx0 R.pt), .n 6 (bx1 R.pt), .n 6 (by0 R.pt), .n 6 (by1 R.pt), .b (bi R.pt)]) flG2 rfl rfl (A12.keep h.out) rfl rfl) ?_
    refine GSteps.cons (late_store rfl (fun _ => rfl) (fun γ w h => ex_stores 0 5 (l := [.n 6 0, .n 6 0, .n 6 0, .n 6 0, .b false]) (m := [.n 6 (bx0 R.pt), .n 6 (bx1 R.pt), .n 6 (by0 R.pt), .n 6 (by1 R.pt), .b (bi R.pt)]) flG2.2 rfl rfl rfl rfl (A11.keep h.out) rfl rfl) rfl) ?_
    exact GSteps.nil
  intro w14 w14_ hb14 hs14
  refine th_r ?_
  have A15 := A8.keep hb14.out
  have A16 := A9.keep hb14.out
  have A17 := A10.keep hb14.out
  have A18 := A11.keep hb14.out
  have A19 := A12.keep hb14.out
  have HB20 := below_then HB13 hb14.out
  have A21 := hs14.other (hn1 0 3 (by decide) (by decide) (by decide)) A15
  have A22 := hs14.other (hn1 1 3 (by decide) (by decide) (by decide)) A16
  have A23 := hs14.other (hn1 2 3 (by decide) (by decide) (by decide)) A17
  have A24 := hs14.here 0 5 (l' := [.n 6 (bx0 R.pt), .n 6 (bx1 R.pt), .n 6 (by0 R.pt), .n 6 (by1 R.pt), .b (bi R.pt)]) A18 rfl rfl rfl
  have A25 := hs14.other (Ne.symm (Nat.ne_of_lt (Nat.lt_of_lt_of_le A5.lt le12))) A19
  have HB26 := hs14.below HB20 (Nat.le_trans (Nat.le_refl _) le5)
  exact wp_ret (bodyPost_ret (ret1 Tryz.results146 (res_sv rfl A24 flG2 rfl)) rfl ⟨rfl, HB26⟩)
set_option maxRecDepth 20000 in
set_option maxHeartbeats 4000000 in
theorem scOnes2_p (m : Nat) (hm : m ≤ 4096) (S : Nat → E2) (A : Nat → Nat) (ap ak : Option Addr) (cp ck : Nat) (HA : ∀ i, i < m → A i < frB) (w : World) (HP : Row w ap 25 m (fun i => pt2 (S i))) (HK : Row w ak 4 m (fun i => [.n 4 (A i)])) :
    Calls Tryz.prog 99 #[sv [.v (.func (.func 17) #[] #[]), .v (.func (.func 21) #[] #[]), .v (.func (.func 23) #[] #[]), .v (.func (.func 22) #[] #[]), .i .i64 12], .slice ap m cp, .slice ak m ck] w (Is (sv [.n 6 (bx0 (((sumE2 S A m)).pt)), .n 6 (bx1 (((sumE2 S A m)).pt)), .n 6 (by0 (((sumE2 S A m)).pt)), .n 6 (by1 (((sumE2 S A m)).pt)), .b (bi (((sumE2 S A m)).pt))]) w) := by
  go_enter Tryz.func99, Tryz.ntmps99
  refine wp_seq (region_c 2 (fun j_ => match j_ with | 0 => 87 | _ => 30) (fun j_ => match j_ with | 0 => 0 | _ => 1) (fun j_ => match j_ with | 0 => 0 | _ => 1) (fun j_ => match j_ with | 0 => segs [.v (.func (.func 17) #[] #[]), .v (.func (.func 21) #[] #[]), .v (.func (.func 23) #[] #[]), .v (.func (.func 22) #[] #[]), .i .i64 12] | _ => segs [.n 6 0, .n 6 0, .n 6 0, .n 6 0, .b false]) (fun j_ => match j_ with | 0 => segs [.v (.func (.func 17) #[] #[]), .v (.func (.func 21) #[] #[]), .v (.func (.func 23) #[] #[]), .v (.func (.func 22) #[] #[]), .i .i64 12] | _ => segs [.n 6 0, .n 6 0, .n 6 0, .n 6 0, .b false]) [3, 6] (fun γ => [.pointer (some ⟨γ 0, 0, none⟩), .pointer (some ⟨γ 1, 0, none⟩)]) ?_ ?_)
  · refine GSteps.cons (gm_box 0 rfl (fun _ => rfl) (fun _ _ => rfl) (fun γ w h => ex_boxs (l := [.v (.func (.func 17) #[] #[]), .v (.func (.func 21) #[] #[]), .v (.func (.func 23) #[] #[]), .v (.func (.func 22) #[] #[]), .i .i64 12]) rfl) rfl rfl rfl) ?_
    refine GSteps.cons (gm_box 1 rfl (fun _ => rfl) (fun _ _ => rfl) (fun γ w h => ex_allocs (l := [.n 6 0, .n 6 0, .n 6 0, .n 6 0, .b false]) zG2) rfl rfl rfl) ?_
    exact GSteps.nil
  intro γ1 w1 hb1 hB1 hn1
  refine th_r ?_
  have A2 : SB 87 w1 (γ1 0) [.v (.func (.func 17) #[] #[]), .v (.func (.func 21) #[] #[]), .v (.func (.func 23) #[] #[]), .v (.func (.func 22) #[] #[]), .i .i64 12] := (hB1 0 (by decide)).2
  have le2 := (hB1 0 (by decide)).1
  have A3 : SB 30 w1 (γ1 1) [.n 6 0, .n 6 0, .n 6 0, .n 6 0, .b false] := (hB1 1 (by decide)).2
  have le3 := (hB1 1 (by decide)).1
  have HB4 := below_then (Below.refl w.heap.size w) hb1.out
  refine wp_seq (region_c 1 (fun _ => 30) (fun _ => 3) (fun _ => 4) (fun _ => segs [.n 6 0, .n 6 0, .n 6 0, .n 6 0, .b false]) (fun _ => segs [.n 6 (bx0 Z2.pt), .n 6 (bx1 Z2.pt), .n 6 (by0 Z2.pt), .n 6 (by1 Z2.pt), .b (bi Z2.pt)]) [10, 11, 12, 7] (fun γ => [.pointer (some ⟨(γ1 0), 1, none⟩), .func (.func 21) #[] #[], sv [.n 6 (bx0 Z2.pt), .n 6 (bx1 Z2.pt), .n 6 (by0 Z2.pt), .n 6 (by1 Z2.pt), .b (bi Z2.pt)], .pointer (some ⟨γ 0, 0, none⟩)]) ?_ ?_)
  · refine stpx (fun _ _ => ex_field faSc2_1 rfl) ?_
    refine stpv (fun γ w h => ex_load1 1 (s := .v (.func (.func 21) #[] #[])) (v := .func (.func 21) #[] #[]) sgF2_1 rfl (A2.keep h.out) rfl rfl rfl) ?_
    refine stpc (sv [.n 6 (bx0 Z2.pt), .n 6 (bx1 Z2.pt), .n 6 (by0 Z2.pt), .n 6 (by1 Z2.pt), .b (bi Z2.pt)]) (fun γ w => ex_call (vs := []) rfl Tryz.call21 rfl) (fun w h => twoZero_p _) ?_
    refine GSteps.cons (gm_new 0 rfl (fun _ => rfl) (fun _ _ => rfl) (fun γ w => ex_allocs (l := [.n 6 0, .n 6 0, .n 6 0, .n 6 0, .b false]) zG2) rfl (by kernel_rfl)) ?_
    refine GSteps.cons (gm_store 0 rfl rfl (fun _ => rfl) (len_segs (l := [.n 6 (bx0 Z2.pt), .n 6 (bx1 Z2.pt), .n 6 (by0 Z2.pt), .n 6 (by1 Z2.pt), .b (bi Z2.pt)]) (l' := [.n 6 0, .n 6 0, .n 6 0, .n 6 0, .b false]) rfl) (fun γ w h => ex_stores 0 5 (l := [.n 6 0, .n 6 0, .n 6 0, .n 6 0, .b false]) (m := [.n 6 (bx0 Z2.pt), .n 6 (bx1 Z2.pt), .n 6 (by0 Z2.pt), .n 6 (by1 Z2.pt), .b (bi Z2.pt)]) flG2.2 rfl rfl rfl rfl h rfl rfl) rfl rfl (by kernel_rfl)) ?_
    exact GSteps.nil
  intro γ5 w5 hb5 hB5 _
  refine th_r ?_
  have A6 := A2.keep hb5.out
  have A7 := A3.keep hb5.out
  have A8 : SB 30 w5 (γ5 0) [.n 6 (bx0 Z2.pt), .n 6 (bx1 Z2.pt), .n 6 (by0 Z2.pt), .n 6 (by1 Z2.pt), .b (bi Z2.pt)] := (hB5 0 (by decide)).2
  have le8 := (hB5 0 (by decide)).1
  have HB9 := below_then HB4 hb5.out
  refine wp_seq ?_
  refine wp_seq (region_0 [13, 14, 15] [.slice ap m cp, .int .i64 ((m : Nat) : Int), .int .i64 0] ?_ ?_)
  · refine stpx (fun _ _ => ex_move _) ?_
    refine stpx (fun _ _ => ex_lenR slP2 (m := m) rfl) ?_
    refine stpx (fun _ _ => ex_move _) ?_
    exact GSteps.nil
  intro w10 hb10
  refine th_r ?_
  have A11 := A6.keep hb10.out
  have A12 := A7.keep hb10.out
  have A13 := A8.keep hb10.out
  have HB14 := below_then HB9 hb10.out
  refine wp_block ?_
  refine wp_loop_by (m) (fun q_ a_ v_ => ∃ j8 j9 j16 j17 j18 j19 j20 j21 j22 j23 j24 j25 j26 j27 j28 j29 j30 : Value, a_ = ⟨List.toArray ((sv [.v (.func (.func 17) #[] #[]), .v (.func (.func 21) #[] #[]), .v (.func (.func 23) #[] #[]), .v (.func (.func 22) #[] #[]), .i .i64 12]) :: (.slice ap m cp) :: (.slice ak m ck) :: (.pointer (some ⟨(γ1 0), 0, none⟩)) :: undef :: undef :: (.pointer (some ⟨(γ1 1), 0, none⟩)) :: (.pointer (some ⟨(γ5 0), 0, none⟩)) :: j8 :: j9 :: (.pointer (some ⟨(γ1 0), 1, none⟩)) :: (.func (.func 21) #[] #[]) :: (sv [.n 6 (bx0 Z2.pt), .n 6 (bx1 Z2.pt), .n 6 (by0 Z2.pt), .n 6 (by1 Z2.pt), .b (bi Z2.pt)]) :: (.slice ap m cp) :: (.int .i64 ((m : Nat) : Int)) :: (.int .i64 ((q_ : Nat) : Int)) :: j16 :: j17 :: j18 :: j19 :: j20 :: j21 :: j22 :: j23 :: j24 :: j25 :: j26 :: j27 :: j28 :: j29 :: j30 :: undef :: []), []⟩ ∧ SB 87 v_ (γ1 0) [.v (.func (.func 17) #[] #[]), .v (.func (.func 21) #[] #[]), .v (.func (.func 23) #[] #[]), .v (.func (.func 22) #[] #[]), .i .i64 12] ∧ SB 30 v_ (γ1 1) [.n 6 0, .n 6 0, .n 6 0, .n 6 0, .b false] ∧ SB 30 v_ (γ5 0) [.n 6 (bx0 (((sumE2 S A q_)).pt)), .n 6 (bx1 (((sumE2 S A q_)).pt)), .n 6 (by0 (((sumE2 S A q_)).pt)), .n 6 (by1 (((sumE2 S A q_)).pt)), .b (bi (((sumE2 S A q_)).pt))] ∧ Below w.heap.size w v_) ⟨_, _, _, _, _, _, _, _, _, _, _, _, _, _, _, _, _, rfl, A11, A12, A13, HB14⟩ ?_ ?_
  · intro k15 hk15
    rintro _ w15 ⟨i15_8, i15_9, i15_16, i15_17, i15_18, i15_19, i15_20, i15_21, i15_22, i15_23, i15_24, i15_25, i15_26, i15_27, i15_28, i15_29, i15_30, rfl, A15_0, A15_1, A15_2, HB15⟩ K15 hK15
    have hq := hk15
    refine wp_seq (region_0 [16] [.bool true] ?_ ?_)
    · refine stpx (fun _ _ => ex_ilss rfl rfl true (by rw [eq_comm, decide_eq_true_eq]; omega)) ?_
      exact GSteps.nil
    intro w16 hb16
    refine th_r ?_
    have A17 := A15_0.keep hb16.out
    have A18 := A15_1.keep hb16.out
    have A19 := A15_2.keep hb16.out
    have HB20 := below_then HB15 hb16.out
    refine wp_seq ?_
    refine wp_cond_true rfl ?_
    refine wp_skip ?_
    refine th_r ?_
    refine wp_seq ?_
    refine wp_block ?_
    obtain ⟨g21, o21, ha21, lg21, hr21⟩ := (HP.keep HB20) k15 hq
    skip
    · refine wp_seq (region_c 1 (fun _ => 30) (fun _ => 3) (fun _ => 5) (fun _ => segs [.n 6 0, .n 6 0, .n 6 0, .n 6 0, .b false]) (fun _ => segs [.n 6 (bx0 ((S k15).pt)), .n 6 (bx1 ((S k15).pt)), .n 6 (by0 ((S k15).pt)), .n 6 (by1 ((S k15).pt)), .b (bi ((S k15).pt))]) [17, 18, 19, 9, 8] (fun γ => [.int .i64 ((k15 : Nat) : Int), .pointer (some ⟨g21, o21 + 25 * k15, none⟩), sv [.n 6 (bx0 ((S k15).pt)), .n 6 (bx1 ((S k15).pt)), .n 6 (by0 ((S k15).pt)), .n 6 (by1 ((S k15).pt)), .b (bi ((S k15).pt))], .pointer (some ⟨γ 0, 0, none⟩), .int .i64 ((k15 : Nat) : Int)]) ?_ ?_)
      · refine stpx (fun _ _ => ex_move _) ?_
        refine stpx (fun _ _ => ex_idxR slP2 (a := ap) (m := m) (c := cp) (i := k15) rfl ha21 rfl hq) ?_
        refine stpv (fun γ w h => ex_loadR (l := [.n 6 (bx0 ((S k15).pt)), .n 6 (bx1 ((S k15).pt)), .n 6 (by0 ((S k15).pt)), .n 6 (by1 ((S k15).pt)), .b (bi ((S k15).pt))]) flG2 rfl rfl (range_keep lg21 h.out hr21)) ?_
        refine GSteps.cons (gm_new 0 rfl (fun _ => rfl) (fun _ _ => rfl) (fun γ w => ex_allocs (l := [.n 6 0, .n 6 0, .n 6 0, .n 6 0, .b false]) zG2) rfl (by kernel_rfl)) ?_
        refine stpx (fun _ _ => ex_assign _) ?_
        refine GSteps.cons (gm_store 0 rfl rfl (fun _ => rfl) (len_segs (l := [.n 6 (bx0 ((S k15).pt)), .n 6 (bx1 ((S k15).pt)), .n 6 (by0 ((S k15).pt)), .n 6 (by1 ((S k15).pt)), .b (bi ((S k15).pt))]) (l' := [.n 6 0, .n 6 0, .n 6 0, .n 6 0, .b false]) rfl) (fun γ w h => ex_stores 0 5 (l := [.n 6 0, .n 6 0, .n 6 0, .n 6 0, .b false]) (m := [.n 6 (bx0 ((S k15).pt)), .n 6 (bx1 ((S k15).pt)), .n 6 (by0 ((S k15).pt)), .n 6 (by1 ((S k15).pt)), .b (bi ((S k15).pt))]) flG2.2 rfl rfl rfl rfl h rfl rfl) rfl rfl (by kernel_rfl)) ?_
        exact GSteps.nil
      intro γ22 w22 hb22 hB22 _
      refine th_r ?_
      have A23 := A17.keep hb22.out
      have A24 := A18.keep hb22.out
      have A25 := A19.keep hb22.out
      have A26 : SB 30 w22 (γ22 0) [.n 6 (bx0 ((S k15).pt)), .n 6 (bx1 ((S k15).pt)), .n 6 (by0 ((S k15).pt)), .n 6 (by1 ((S k15).pt)), .b (bi ((S k15).pt))] := (hB22 0 (by decide)).2
      have le26 := (hB22 0 (by decide)).1
      have HB27 := below_then HB20 hb22.out
      obtain ⟨g28, o28, ha28, lg28, hr28⟩ := (HK.keep HB27) k15 hq
      skip
      · refine region_s 10 ((γ5 0)) 0 (segs [.n 6 (bx0 (((sumE2 S A (k15 + 1))).pt)), .n 6 (bx1 (((sumE2 S A (k15 + 1))).pt)), .n 6 (by0 (((sumE2 S A (k15 + 1))).pt)), .n 6 (by1 (((sumE2 S A (k15 + 1))).pt)), .b (bi (((sumE2 S A (k15 + 1))).pt))]) [20, 21, 22, 23, 24, 25, 26, 27, 28, 29] [sv [.v (.func (.func 17) #[] #[]), .v (.func (.func 21) #[] #[]), .v (.func (.func 23) #[] #[]), .v (.func (.func 22) #[] #[]), .i .i64 12], sv [.n 6 (bx0 (((sumE2 S A k15)).pt)), .n 6 (bx1 (((sumE2 S A k15)).pt)), .n 6 (by0 (((sumE2 S A k15)).pt)), .n 6 (by1 (((sumE2 S A k15)).pt)), .b (bi (((sumE2 S A k15)).pt))], sv [.v (.func (.func 17) #[] #[]), .v (.func (.func 21) #[] #[]), .v (.func (.func 23) #[] #[]), .v (.func (.func 22) #[] #[]), .i .i64 12], sv [.n 6 (bx0 ((S k15).pt)), .n 6 (bx1 ((S k15).pt)), .n 6 (by0 ((S k15).pt)), .n 6 (by1 ((S k15).pt)), .b (bi ((S k15).pt))], .slice ak m ck, .int .i64 ((k15 : Nat) : Int), .pointer (some ⟨g28, o28 + 4 * k15, none⟩), nv 4 [(A k15)], sv [.n 6 (bx0 (((EP.times C2 (A k15) (S k15))).pt)), .n 6 (bx1 (((EP.times C2 (A k15) (S k15))).pt)), .n 6 (by0 (((EP.times C2 (A k15) (S k15))).pt)), .n 6 (by1 (((EP.times C2 (A k15) (S k15))).pt)), .b (bi (((EP.times C2 (A k15) (S k15))).pt))], sv [.n 6 (bx0 (((sumE2 S A (k15 + 1))).pt)), .n 6 (bx1 (((sumE2 S A (k15 + 1))).pt)), .n 6 (by0 (((sumE2 S A (k15 + 1))).pt)), .n 6 (by1 (((sumE2 S A (k15 + 1))).pt)), .b (bi (((sumE2 S A (k15 + 1))).pt))]] ?_ ?_
        · refine latv (fun γ w h => ex_loads 0 5 (m := [.v (.func (.func 17) #[] #[]), .v (.func (.func 21) #[] #[]), .v (.func (.func 23) #[] #[]), .v (.func (.func 22) #[] #[]), .i .i64 12]) flSc2 rfl rfl (A23.keep h.out) rfl rfl) ?_
          refine latv (fun γ w h => ex_loads 0 5 (m := [.n 6 (bx0 (((sumE2 S A k15)).pt)), .n 6 (bx1 (((sumE2 S A k15)).pt)), .n 6 (by0 (((sumE2 S A k15)).pt)), .n 6 (by1 (((sumE2 S A k15)).pt)), .b (bi (((sumE2 S A k15)).pt))]) flG2 rfl rfl (A25.keep h.out) rfl rfl) ?_
          refine latv (fun γ w h => ex_loads 0 5 (m := [.v (.func (.func 17) #[] #[]), .v (.func (.func 21) #[] #[]), .v (.func (.func 23) #[] #[]), .v (.func (.func 22) #[] #[]), .i .i64 12]) flSc2 rfl rfl (A23.keep h.out) rfl rfl) ?_
          refine latv (fun γ w h => ex_loads 0 5 (m := [.n 6 (bx0 ((S k15).pt)), .n 6 (bx1 ((S k15).pt)), .n 6 (by0 ((S k15).pt)), .n 6 (by1 ((S k15).pt)), .b (bi ((S k15).pt))]) flG2 rfl rfl (A26.keep h.out) rfl rfl) ?_
          refine latv (fun γ w h => ex_move _) ?_
          refine latv (fun γ w h => ex_move _) ?_
          refine latv (fun γ w h => ex_idxR slR2 (a := ak) (m := m) (c := ck) (i := k15) rfl ha28 rfl hq) ?_
          refine latv (fun γ w h => ex_loadRn (K := 4) (v := (A k15)) flFr rfl (range_keep lg28 h.out hr28)) ?_
          refine latc (sv [.n 6 (bx0 (((EP.times C2 (A k15) (S k15))).pt)), .n 6 (bx1 (((EP.times C2 (A k15) (S k15))).pt)), .n 6 (by0 (((EP.times C2 (A k15) (S k15))).pt)), .n 6 (by1 (((EP.times C2 (A k15) (S k15))).pt)), .b (bi (((EP.times C2 (A k15) (S k15))).pt))]) (fun γ w => ex_call (vs := [sv [.v (.func (.func 17) #[] #[]), .v (.func (.func 21) #[] #[]), .v (.func (.func 23) #[] #[]), .v (.func (.func 22) #[] #[]), .i .i64 12], sv [.n 6 (bx0 ((S k15).pt)), .n 6 (bx1 ((S k15).pt)), .n 6 (by0 ((S k15).pt)), .n 6 (by1 ((S k15).pt)), .b (bi ((S k15).pt))], nv 4 [(A k15)]]) rfl Tryz.call146 rfl) (fun w h => scTimes2_p (S k15) _ (A k15) (HA k15 hk15) rfl _) ?_
          refine latc (sv [.n 6 (bx0 (((sumE2 S A (k15 + 1))).pt)), .n 6 (bx1 (((sumE2 S A (k15 + 1))).pt)), .n 6 (by0 (((sumE2 S A (k15 + 1))).pt)), .n 6 (by1 (((sumE2 S A (k15 + 1))).pt)), .b (bi (((sumE2 S A (k15 + 1))).pt))]) (fun γ w => ex_call (vs := [sv [.v (.func (.func 17) #[] #[]), .v (.func (.func 21) #[] #[]), .v (.func (.func 23) #[] #[]), .v (.func (.func 22) #[] #[]), .i .i64 12], sv [.n 6 (bx0 (((sumE2 S A k15)).pt)), .n 6 (bx1 (((sumE2 S A k15)).pt)), .n 6 (by0 (((sumE2 S A k15)).pt)), .n 6 (by1 (((sumE2 S A k15)).pt)), .b (bi (((sumE2 S A k15)).pt))], sv [.n 6 (bx0 (((EP.times C2 (A k15) (S k15))).pt)), .n 6 (bx1 (((EP.times C2 (A k15) (S k15))).pt)), .n 6 (by0 (((EP.times C2 (A k15) (S k15))).pt)), .n 6 (by1 (((EP.times C2 (A k15) (S k15))).pt)), .b (bi (((EP.times C2 (A k15) (S k15))).pt))]]) rfl Tryz.call145 rfl) (fun w h => scPlus2_p (sumE2 S A k15) (EP.times C2 (A k15) (S k15)) _ rfl _) ?_
          refine GSteps.cons (late_store rfl (fun _ => rfl) (fun γ w h => ex_stores 0 5 (l := [.n 6 (bx0 (((sumE2 S A k15)).pt)), .n 6 (bx1 (((sumE2 S A k15)).pt)), .n 6 (by0 (((sumE2 S A k15)).pt)), .n 6 (by1 (((sumE2 S A k15)).pt)), .b (bi (((sumE2 S A k15)).pt))]) (m := [.n 6 (bx0 (((sumE2 S A (k15 + 1))).pt)), .n 6 (bx1 (((sumE2 S A (k15 + 1))).pt)), .n 6 (by0 (((sumE2 S A (k15 + 1))).pt)), .n 6 (by1 (((sumE2 S A (k15 + 1))).pt)), .b (bi (((sumE2 S A (k15 + 1))).pt))]) flG2.2 rfl rfl rfl rfl (A25.keep h.out) rfl rfl) rfl) ?_
          exact GSteps.nil
        intro w29 w29_ hb29 hs29
        have A30 := A23.keep hb29.out
        have A31 := A24.keep hb29.out
        have A32 := A25.keep hb29.out
        have A33 := A26.keep hb29.out
        have HB34 := below_then HB27 hb29.out
        have A35 := hs29.other (Nat.ne_of_lt (Nat.lt_of_lt_of_le A2.lt le8)) A30
        have A36 := hs29.other (Nat.ne_of_lt (Nat.lt_of_lt_of_le A3.lt le8)) A31
        have A37 := hs29.here 0 5 (l' := [.n 6 (bx0 (((sumE2 S A (k15 + 1))).pt)), .n 6 (bx1 (((sumE2 S A (k15 + 1))).pt)), .n 6 (by0 (((sumE2 S A (k15 + 1))).pt)), .n 6 (by1 (((sumE2 S A (k15 + 1))).pt)), .b (bi (((sumE2 S A (k15 + 1))).pt))]) A32 rfl rfl rfl
        have A38 := hs29.other (Ne.symm (Nat.ne_of_lt (Nat.lt_of_lt_of_le A19.lt le26))) A33
        have HB39 := hs29.below HB34 (Nat.le_trans HB4.size le8)
        refine bk_n ?_
        refine th_r ?_
        refine wp_region_lit ?_
        refine sv1 (.int .i64 ((k15 + 1 : Nat) : Int)) (ex_iadd rfl rfl ((k15 + 1 : Nat) : Int) (cnt_up (by omega))) ?_
        refine sv1 (.int .i64 ((k15 + 1 : Nat) : Int)) (ex_move _) ?_
        refine wpList_nil ?_
        refine th_r ?_
        exact hK15.out _ _ ⟨_, _, _, _, _, _, _, _, _, _, _, _, _, _, _, _, _, rfl, A35, A36, A37, HB39⟩
  · rintro _ w40 ⟨i40_8, i40_9, i40_16, i40_17, i40_18, i40_19, i40_20, i40_21, i40_22, i40_23, i40_24, i40_25, i40_26, i40_27, i40_28, i40_29, i40_30, rfl, A40_0, A40_1, A40_2, HB40⟩ K40
    refine wp_seq (region_0 [16] [.bool false] ?_ ?_)
    · refine stpx (fun _ _ => ex_ilss rfl rfl false (by rw [eq_comm, decide_eq_false_iff_not]; omega)) ?_
      exact GSteps.nil
    intro w41 hb41
    refine th_r ?_
    have A42 := A40_0.keep hb41.out
    have A43 := A40_1.keep hb41.out
    have A44 := A40_2.keep hb41.out
    have HB45 := below_then HB40 hb41.out
    refine wp_seq ?_
    refine wp_cond_false rfl ?_
    refine wp_exit (th_e (th_e (bk_e ?_)))
    refine th_r ?_
    refine wp_seq (region_s 1 ((γ1 1)) 0 (segs [.n 6 (bx0 (((sumE2 S A m)).pt)), .n 6 (bx1 (((sumE2 S A m)).pt)), .n 6 (by0 (((sumE2 S A m)).pt)), .n 6 (by1 (((sumE2 S A m)).pt)), .b (bi (((sumE2 S A m)).pt))]) [31] [sv [.n 6 (bx0 (((sumE2 S A m)).pt)), .n 6 (bx1 (((sumE2 S A m)).pt)), .n 6 (by0 (((sumE2 S A m)).pt)), .n 6 (by1 (((sumE2 S A m)).pt)), .b (bi (((sumE2 S A m)).pt))]] ?_ ?_)
    · refine latv (fun γ w h => ex_loads 0 5 (m := [.n 6 (bx0 (((sumE2 S A m)).pt)), .n 6 (bx1 (((sumE2 S A m)).pt)), .n 6 (by0 (((sumE2 S A m)).pt)), .n 6 (by1 (((sumE2 S A m)).pt)), .b (bi (((sumE2 S A m)).pt))]) flG2 rfl rfl (A44.keep h.out) rfl rfl) ?_
      refine GSteps.cons (late_store rfl (fun _ => rfl) (fun γ w h => ex_stores 0 5 (l := [.n 6 0, .n 6 0, .n 6 0, .n 6 0, .b false]) (m := [.n 6 (bx0 (((sumE2 S A m)).pt)), .n 6 (bx1 (((sumE2 S A m)).pt)), .n 6 (by0 (((sumE2 S A m)).pt)), .n 6 (by1 (((sumE2 S A m)).pt)), .b (bi (((sumE2 S A m)).pt))]) flG2.2 rfl rfl rfl rfl (A43.keep h.out) rfl rfl) rfl) ?_
      exact GSteps.nil
    intro w46 w46_ hb46 hs46
    refine th_r ?_
    have A47 := A42.keep hb46.out
    have A48 := A43.keep hb46.out
    have A49 := A44.keep hb46.out
    have HB50 := below_then HB45 hb46.out
    have A51 := hs46.other (hn1 0 1 (by decide) (by decide) (by decide)) A47
    have A52 := hs46.here 0 5 (l' := [.n 6 (bx0 (((sumE2 S A m)).pt)), .n 6 (bx1 (((sumE2 S A m)).pt)), .n 6 (by0 (((sumE2 S A m)).pt)), .n 6 (by1 (((sumE2 S A m)).pt)), .b (bi (((sumE2 S A m)).pt))]) A48 rfl rfl rfl
    have A53 := hs46.other (Ne.symm (Nat.ne_of_lt (Nat.lt_of_lt_of_le A3.lt le8))) A49
    have HB54 := hs46.below HB50 (Nat.le_trans (Nat.le_refl _) le3)
    exact wp_ret (bodyPost_ret (ret1 Tryz.results99 (res_sv rfl A52 flG2 rfl)) rfl ⟨rfl, HB54⟩)
set_option maxRecDepth 20000 in
set_option maxHeartbeats 4000000 in
theorem scFew2_p (m : Nat) (hm : m ≤ 4096) (S : Nat → E2) (A : Nat → Nat) (ap ak : Option Addr) (cp ck : Nat) (hf : m < 12) (HA : ∀ i, i < m → A i < frB) (w : World) (HP : Row w ap 25 m (fun i => pt2 (S i))) (HK : Row w ak 4 m (fun i => [.n 4 (A i)])) :
    Calls Tryz.prog 54 #[sv [.v (.func (.func 17) #[] #[]), .v (.func (.func 21) #[] #[]), .v (.func (.func 23) #[] #[]), .v (.func (.func 22) #[] #[]), .i .i64 12], .slice ap m cp, .slice ak m ck] w (Is (.tuple #[sv [.n 6 (bx0 (((sumE2 S A m)).pt)), .n 6 (bx1 (((sumE2 S A m)).pt)), .n 6 (by0 (((sumE2 S A m)).pt)), .n 6 (by1 (((sumE2 S A m)).pt)), .b (bi (((sumE2 S A m)).pt))], .int .i64 0]) w) := by
  go_enter Tryz.func54, Tryz.ntmps54
  refine wp_seq (region_c 2 (fun j_ => match j_ with | 0 => 87 | _ => 30) (fun j_ => match j_ with | 0 => 0 | _ => 1) (fun j_ => match j_ with | 0 => 0 | _ => 1) (fun j_ => match j_ with | 0 => segs [.v (.func (.func 17) #[] #[]), .v (.func (.func 21) #[] #[]), .v (.func (.func 23) #[] #[]), .v (.func (.func 22) #[] #[]), .i .i64 12] | _ => segs [.n 6 0, .n 6 0, .n 6 0, .n 6 0, .b false]) (fun j_ => match j_ with | 0 => segs [.v (.func (.func 17) #[] #[]), .v (.func (.func 21) #[] #[]), .v (.func (.func 23) #[] #[]), .v (.func (.func 22) #[] #[]), .i .i64 12] | _ => segs [.n 6 0, .n 6 0, .n 6 0, .n 6 0, .b false]) [3, 6, 7] (fun γ => [.pointer (some ⟨γ 0, 0, none⟩), .pointer (some ⟨γ 1, 0, none⟩), .int .i64 0]) ?_ ?_)
  · refine GSteps.cons (gm_box 0 rfl (fun _ => rfl) (fun _ _ => rfl) (fun γ w h => ex_boxs (l := [.v (.func (.func 17) #[] #[]), .v (.func (.func 21) #[] #[]), .v (.func (.func 23) #[] #[]), .v (.func (.func 22) #[] #[]), .i .i64 12]) rfl) rfl rfl rfl) ?_
    refine GSteps.cons (gm_box 1 rfl (fun _ => rfl) (fun _ _ => rfl) (fun γ w h => ex_allocs (l := [.n 6 0, .n 6 0, .n 6 0, .n 6 0, .b false]) zG2) rfl rfl rfl) ?_
    refine stpx (fun _ _ => ex_assign _) ?_
    exact GSteps.nil
  intro γ1 w1 hb1 hB1 hn1
  refine th_r ?_
  have A2 : SB 87 w1 (γ1 0) [.v (.func (.func 17) #[] #[]), .v (.func (.func 21) #[] #[]), .v (.func (.func 23) #[] #[]), .v (.func (.func 22) #[] #[]), .i .i64 12] := (hB1 0 (by decide)).2
  have le2 := (hB1 0 (by decide)).1
  have A3 : SB 30 w1 (γ1 1) [.n 6 0, .n 6 0, .n 6 0, .n 6 0, .b false] := (hB1 1 (by decide)).2
  have le3 := (hB1 1 (by decide)).1
  have HB4 := below_then (Below.refl w.heap.size w) hb1.out
  refine wp_seq (region_c 1 (fun _ => 30) (fun _ => 0) (fun _ => 0) (fun _ => segs [.n 6 0, .n 6 0, .n 6 0, .n 6 0, .b false]) (fun _ => segs [.n 6 0, .n 6 0, .n 6 0, .n 6 0, .b false]) [8] (fun γ => [.pointer (some ⟨γ 0, 0, none⟩)]) ?_ ?_)
  · refine GSteps.cons (gm_box 0 rfl (fun _ => rfl) (fun _ _ => rfl) (fun γ w h => ex_allocs (l := [.n 6 0, .n 6 0, .n 6 0, .n 6 0, .b false]) zG2) rfl rfl rfl) ?_
    exact GSteps.nil
  intro γ5 w5 hb5 hB5 _
  refine th_r ?_
  have A6 := A2.keep hb5.out
  have A7 := A3.keep hb5.out
  have A8 : SB 30 w5 (γ5 0) [.n 6 0, .n 6 0, .n 6 0, .n 6 0, .b false] := (hB5 0 (by decide)).2
  have le8 := (hB5 0 (by decide)).1
  have HB9 := below_then HB4 hb5.out
  refine wp_seq ?_
  refine wp_seq (region_0 [11, 12, 13, 14, 15] [.slice ap m cp, .int .i64 ((m : Nat) : Int), .slice ak m ck, .int .i64 ((m : Nat) : Int), .bool false] ?_ ?_)
  · refine stpx (fun _ _ => ex_move _) ?_
    refine stpx (fun _ _ => ex_lenR slP2 (m := m) rfl) ?_
    refine stpx (fun _ _ => ex_move _) ?_
    refine stpx (fun _ _ => ex_lenR slR2 (m := m) rfl) ?_
    refine stpx (fun _ _ => ex_neqi rfl rfl false (by simp)) ?_
    exact GSteps.nil
  intro w10 hb10
  refine th_r ?_
  have A11 := A6.keep hb10.out
  have A12 := A7.keep hb10.out
  have A13 := A8.keep hb10.out
  have HB14 := below_then HB9 hb10.out
  refine wp_cond_false rfl ?_
  refine wp_skip ?_
  refine th_r ?_
  refine wp_seq ?_
  refine wp_seq (region_0 [17, 18, 19] [.slice ap m cp, .int .i64 ((m : Nat) : Int), .bool false] ?_ ?_)
  · refine stpx (fun _ _ => ex_move _) ?_
    refine stpx (fun _ _ => ex_lenR slP2 (m := m) rfl) ?_
    refine stpx (fun _ _ => ex_igtr rfl rfl false (by rw [eq_comm, decide_eq_false_iff_not]; omega)) ?_
    exact GSteps.nil
  intro w15 hb15
  refine th_r ?_
  have A16 := A11.keep hb15.out
  have A17 := A12.keep hb15.out
  have A18 := A13.keep hb15.out
  have HB19 := below_then HB14 hb15.out
  refine wp_cond_false rfl ?_
  refine wp_skip ?_
  refine th_r ?_
  refine wp_seq ?_
  refine wp_seq (region_0 [21, 22, 23] [.slice ap m cp, .int .i64 ((m : Nat) : Int), .int .i64 0] ?_ ?_)
  · refine stpx (fun _ _ => ex_move _) ?_
    refine stpx (fun _ _ => ex_lenR slP2 (m := m) rfl) ?_
    refine stpx (fun _ _ => ex_move _) ?_
    exact GSteps.nil
  intro w20 hb20
  refine th_r ?_
  have A21 := A16.keep hb20.out
  have A22 := A17.keep hb20.out
  have A23 := A18.keep hb20.out
  have HB24 := below_then HB19 hb20.out
  refine wp_block ?_
  refine wp_loop_by (m) (fun q_ a_ v_ => ∃ j7 j10 j24 j25 j26 j27 j28 j29 j30 j31 j32 j33 : Value, a_ = ⟨List.toArray ((sv [.v (.func (.func 17) #[] #[]), .v (.func (.func 21) #[] #[]), .v (.func (.func 23) #[] #[]), .v (.func (.func 22) #[] #[]), .i .i64 12]) :: (.slice ap m cp) :: (.slice ak m ck) :: (.pointer (some ⟨(γ1 0), 0, none⟩)) :: undef :: undef :: (.pointer (some ⟨(γ1 1), 0, none⟩)) :: j7 :: (.pointer (some ⟨(γ5 0), 0, none⟩)) :: undef :: j10 :: (.slice ap m cp) :: (.int .i64 ((m : Nat) : Int)) :: (.slice ak m ck) :: (.int .i64 ((m : Nat) : Int)) :: (.bool false) :: undef :: (.slice ap m cp) :: (.int .i64 ((m : Nat) : Int)) :: (.bool false) :: undef :: (.slice ap m cp) :: (.int .i64 ((m : Nat) : Int)) :: (.int .i64 ((q_ : Nat) : Int)) :: j24 :: j25 :: j26 :: j27 :: j28 :: j29 :: j30 :: j31 :: j32 :: j33 :: undef :: undef :: undef :: undef :: undef :: undef :: undef :: undef :: undef :: undef :: undef :: undef :: undef :: []), []⟩ ∧ SB 87 v_ (γ1 0) [.v (.func (.func 17) #[] #[]), .v (.func (.func 21) #[] #[]), .v (.func (.func 23) #[] #[]), .v (.func (.func 22) #[] #[]), .i .i64 12] ∧ SB 30 v_ (γ1 1) [.n 6 0, .n 6 0, .n 6 0, .n 6 0, .b false] ∧ SB 30 v_ (γ5 0) [.n 6 0, .n 6 0, .n 6 0, .n 6 0, .b false] ∧ Below w.heap.size w v_) ⟨_, _, _, _, _, _, _, _, _, _, _, _, rfl, A21, A22, A23, HB24⟩ ?_ ?_
  · intro k25 hk25
    rintro _ w25 ⟨i25_7, i25_10, i25_24, i25_25, i25_26, i25_27, i25_28, i25_29, i25_30, i25_31, i25_32, i25_33, rfl, A25_0, A25_1, A25_2, HB25⟩ K25 hK25
    have hq := hk25
    refine wp_seq (region_0 [24] [.bool true] ?_ ?_)
    · refine stpx (fun _ _ => ex_ilss rfl rfl true (by rw [eq_comm, decide_eq_true_eq]; omega)) ?_
      exact GSteps.nil
    intro w26 hb26
    refine th_r ?_
    have A27 := A25_0.keep hb26.out
    have A28 := A25_1.keep hb26.out
    have A29 := A25_2.keep hb26.out
    have HB30 := below_then HB25 hb26.out
    refine wp_seq ?_
    refine wp_cond_true rfl ?_
    refine wp_skip ?_
    refine th_r ?_
    refine wp_seq ?_
    refine wp_block ?_
    obtain ⟨g31, o31, ha31, lg31, hr31⟩ := (HP.keep HB30) k25 hq
    skip
    · refine wp_seq (region_c 1 (fun _ => 30) (fun _ => 2) (fun _ => 3) (fun _ => segs [.n 6 0, .n 6 0, .n 6 0, .n 6 0, .b false]) (fun _ => segs [.n 6 (bx0 ((S k25).pt)), .n 6 (bx1 ((S k25).pt)), .n 6 (by0 ((S k25).pt)), .n 6 (by1 ((S k25).pt)), .b (bi ((S k25).pt))]) [25, 26, 10] (fun γ => [.pointer (some ⟨g31, o31 + 25 * k25, none⟩), sv [.n 6 (bx0 ((S k25).pt)), .n 6 (bx1 ((S k25).pt)), .n 6 (by0 ((S k25).pt)), .n 6 (by1 ((S k25).pt)), .b (bi ((S k25).pt))], .pointer (some ⟨γ 0, 0, none⟩)]) ?_ ?_)
      · refine stpx (fun _ _ => ex_idxR slP2 (a := ap) (m := m) (c := cp) (i := k25) rfl ha31 rfl hq) ?_
        refine stpv (fun γ w h => ex_loadR (l := [.n 6 (bx0 ((S k25).pt)), .n 6 (bx1 ((S k25).pt)), .n 6 (by0 ((S k25).pt)), .n 6 (by1 ((S k25).pt)), .b (bi ((S k25).pt))]) flG2 rfl rfl (range_keep lg31 h.out hr31)) ?_
        refine GSteps.cons (gm_new 0 rfl (fun _ => rfl) (fun _ _ => rfl) (fun γ w => ex_allocs (l := [.n 6 0, .n 6 0, .n 6 0, .n 6 0, .b false]) zG2) rfl (by kernel_rfl)) ?_
        refine GSteps.cons (gm_store 0 rfl rfl (fun _ => rfl) (len_segs (l := [.n 6 (bx0 ((S k25).pt)), .n 6 (bx1 ((S k25).pt)), .n 6 (by0 ((S k25).pt)), .n 6 (by1 ((S k25).pt)), .b (bi ((S k25).pt))]) (l' := [.n 6 0, .n 6 0, .n 6 0, .n 6 0, .b false]) rfl) (fun γ w h => ex_stores 0 5 (l := [.n 6 0, .n 6 0, .n 6 0, .n 6 0, .b false]) (m := [.n 6 (bx0 ((S k25).pt)), .n 6 (bx1 ((S k25).pt)), .n 6 (by0 ((S k25).pt)), .n 6 (by1 ((S k25).pt)), .b (bi ((S k25).pt))]) flG2.2 rfl rfl rfl rfl h rfl rfl) rfl rfl (by kernel_rfl)) ?_
        exact GSteps.nil
      intro γ32 w32 hb32 hB32 _
      refine th_r ?_
      have A33 := A27.keep hb32.out
      have A34 := A28.keep hb32.out
      have A35 := A29.keep hb32.out
      have A36 : SB 30 w32 (γ32 0) [.n 6 (bx0 ((S k25).pt)), .n 6 (bx1 ((S k25).pt)), .n 6 (by0 ((S k25).pt)), .n 6 (by1 ((S k25).pt)), .b (bi ((S k25).pt))] := (hB32 0 (by decide)).2
      have le36 := (hB32 0 (by decide)).1
      have HB37 := below_then HB30 hb32.out
      refine wp_seq (region_0 [27, 28, 29, 30, 31] [.pointer (some ⟨(γ1 0), 0, none⟩), .func (.func 17) #[] #[], sv [.n 6 (bx0 ((S k25).pt)), .n 6 (bx1 ((S k25).pt)), .n 6 (by0 ((S k25).pt)), .n 6 (by1 ((S k25).pt)), .b (bi ((S k25).pt))], .bool true, .bool false] ?_ ?_)
      · refine stpx (fun _ _ => ex_field faSc2_0 rfl) ?_
        refine stpv (fun γ w h => ex_load1 0 (s := .v (.func (.func 17) #[] #[])) (v := .func (.func 17) #[] #[]) sgF2_0 rfl (A33.keep h.out) rfl rfl rfl) ?_
        refine stpv (fun γ w h => ex_loads 0 5 (m := [.n 6 (bx0 ((S k25).pt)), .n 6 (bx1 ((S k25).pt)), .n 6 (by0 ((S k25).pt)), .n 6 (by1 ((S k25).pt)), .b (bi ((S k25).pt))]) flG2 rfl rfl (A36.keep h.out) rfl rfl) ?_
        refine stpc (.bool true) (fun γ w => ex_call (vs := [sv [.n 6 (bx0 ((S k25).pt)), .n 6 (bx1 ((S k25).pt)), .n 6 (by0 ((S k25).pt)), .n 6 (by1 ((S k25).pt)), .b (bi ((S k25).pt))]]) rfl Tryz.call17 rfl) (fun w h => twoRight_p (S k25) _) ?_
        refine stpx (fun _ _ => ex_not (r := true) rfl) ?_
        exact GSteps.nil
      intro w38 hb38
      refine th_r ?_
      have A39 := A33.keep hb38.out
      have A40 := A34.keep hb38.out
      have A41 := A35.keep hb38.out
      have A42 := A36.keep hb38.out
      have HB43 := below_then HB37 hb38.out
      refine wp_cond_false rfl ?_
      refine wp_skip ?_
      refine bk_n ?_
      refine th_r ?_
      refine wp_region_lit ?_
      refine sv1 (.int .i64 ((k25 + 1 : Nat) : Int)) (ex_iadd rfl rfl ((k25 + 1 : Nat) : Int) (cnt_up (by omega))) ?_
      refine sv1 (.int .i64 ((k25 + 1 : Nat) : Int)) (ex_move _) ?_
      refine wpList_nil ?_
      refine th_r ?_
      exact hK25.out _ _ ⟨_, _, _, _, _, _, _, _, _, _, _, _, rfl, A39, A40, A41, HB43⟩
  · rintro _ w44 ⟨i44_7, i44_10, i44_24, i44_25, i44_26, i44_27, i44_28, i44_29, i44_30, i44_31, i44_32, i44_33, rfl, A44_0, A44_1, A44_2, HB44⟩ K44
    refine wp_seq (region_0 [24] [.bool false] ?_ ?_)
    · refine stpx (fun _ _ => ex_ilss rfl rfl false (by rw [eq_comm, decide_eq_false_iff_not]; omega)) ?_
      exact GSteps.nil
    intro w45 hb45
    refine th_r ?_
    have A46 := A44_0.keep hb45.out
    have A47 := A44_1.keep hb45.out
    have A48 := A44_2.keep hb45.out
    have HB49 := below_then HB44 hb45.out
    refine wp_seq ?_
    refine wp_cond_false rfl ?_
    refine wp_exit (th_e (th_e (bk_e ?_)))
    refine th_r ?_
    refine wp_seq ?_
    refine wp_seq (region_0 [34, 35, 36, 37, 38] [.slice ap m cp, .int .i64 ((m : Nat) : Int), .pointer (some ⟨(γ1 0), 4, none⟩), .int .i64 12, .bool true] ?_ ?_)
    · refine stpx (fun _ _ => ex_move _) ?_
      refine stpx (fun _ _ => ex_lenR slP2 (m := m) rfl) ?_
      refine stpx (fun _ _ => ex_field faSc2_4 rfl) ?_
      refine stpv (fun γ w h => ex_load1 4 (s := .i .i64 12) (v := .int .i64 12) sgInt rfl (A46.keep h.out) rfl rfl rfl) ?_
      refine stpx (fun _ _ => ex_ilss rfl rfl true (by rw [eq_comm, decide_eq_true_eq]; omega)) ?_
      exact GSteps.nil
    intro w50 hb50
    refine th_r ?_
    have A51 := A46.keep hb50.out
    have A52 := A47.keep hb50.out
    have A53 := A48.keep hb50.out
    have HB54 := below_then HB49 hb50.out
    refine wp_cond_true rfl ?_
    refine wp_seq (region_s 4 ((γ1 1)) 0 (segs [.n 6 (bx0 (((sumE2 S A m)).pt)), .n 6 (bx1 (((sumE2 S A m)).pt)), .n 6 (by0 (((sumE2 S A m)).pt)), .n 6 (by1 (((sumE2 S A m)).pt)), .b (bi (((sumE2 S A m)).pt))]) [39, 40, 41, 42, 7] [sv [.v (.func (.func 17) #[] #[]), .v (.func (.func 21) #[] #[]), .v (.func (.func 23) #[] #[]), .v (.func (.func 22) #[] #[]), .i .i64 12], .slice ap m cp, .slice ak m ck, sv [.n 6 (bx0 (((sumE2 S A m)).pt)), .n 6 (bx1 (((sumE2 S A m)).pt)), .n 6 (by0 (((sumE2 S A m)).pt)), .n 6 (by1 (((sumE2 S A m)).pt)), .b (bi (((sumE2 S A m)).pt))], .int .i64 0] ?_ ?_)
    · refine latv (fun γ w h => ex_loads 0 5 (m := [.v (.func (.func 17) #[] #[]), .v (.func (.func 21) #[] #[]), .v (.func (.func 23) #[] #[]), .v (.func (.func 22) #[] #[]), .i .i64 12]) flSc2 rfl rfl (A51.keep h.out) rfl rfl) ?_
      refine latv (fun γ w h => ex_move _) ?_
      refine latv (fun γ w h => ex_move _) ?_
      refine latc (sv [.n 6 (bx0 (((sumE2 S A m)).pt)), .n 6 (bx1 (((sumE2 S A m)).pt)), .n 6 (by0 (((sumE2 S A m)).pt)), .n 6 (by1 (((sumE2 S A m)).pt)), .b (bi (((sumE2 S A m)).pt))]) (fun γ w => ex_call (vs := [sv [.v (.func (.func 17) #[] #[]), .v (.func (.func 21) #[] #[]), .v (.func (.func 23) #[] #[]), .v (.func (.func 22) #[] #[]), .i .i64 12], .slice ap m cp, .slice ak m ck]) rfl Tryz.call99 rfl) (fun w h => scOnes2_p m hm S A ap ak cp ck HA _ (HP.keep (below_here HB54 h)) (HK.keep (below_here HB54 h))) ?_
      refine GSteps.cons (late_store rfl (fun _ => rfl) (fun γ w h => ex_stores 0 5 (l := [.n 6 0, .n 6 0, .n 6 0, .n 6 0, .b false]) (m := [.n 6 (bx0 (((sumE2 S A m)).pt)), .n 6 (bx1 (((sumE2 S A m)).pt)), .n 6 (by0 (((sumE2 S A m)).pt)), .n 6 (by1 (((sumE2 S A m)).pt)), .b (bi (((sumE2 S A m)).pt))]) flG2.2 rfl rfl rfl rfl (A52.keep h.out) rfl rfl) rfl) ?_
      refine GSteps.cons (late_any (v := .int .i64 0) rfl (fun _ => rfl) (fun _ => rfl) (fun γ w h => ex_assign _) rfl rfl) ?_
      exact GSteps.nil
    intro w55 w55_ hb55 hs55
    refine th_r ?_
    have A56 := A51.keep hb55.out
    have A57 := A52.keep hb55.out
    have A58 := A53.keep hb55.out
    have HB59 := below_then HB54 hb55.out
    have A60 := hs55.other (hn1 0 1 (by decide) (by decide) (by decide)) A56
    have A61 := hs55.here 0 5 (l' := [.n 6 (bx0 (((sumE2 S A m)).pt)), .n 6 (bx1 (((sumE2 S A m)).pt)), .n 6 (by0 (((sumE2 S A m)).pt)), .n 6 (by1 (((sumE2 S A m)).pt)), .b (bi (((sumE2 S A m)).pt))]) A57 rfl rfl rfl
    have A62 := hs55.other (Ne.symm (Nat.ne_of_lt (Nat.lt_of_lt_of_le A3.lt le8))) A58
    have HB63 := hs55.below HB59 (Nat.le_trans (Nat.le_refl _) le3)
    exact wp_ret (th_ret (bodyPost_ret (ret2 Tryz.results54 (res_sv rfl A61 flG2 rfl) (res_tmp rfl)) rfl ⟨rfl, HB63⟩))
end Go.Proofs.YtkkmekdhejhapaaGreat

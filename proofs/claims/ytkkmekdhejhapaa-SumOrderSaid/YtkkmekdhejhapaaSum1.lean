/- What is proved here: package sum over the first curve: sums of few points, one by one. -/
import Derived.Test.YtkkmekdhejhapaaSumRow
import Derived.Test.YtkkmekdhejhapaaComp
import Derived.Test.YtkkmekdhejhapaaOne3
namespace Go.Proofs.Ytkkmekdhejhapaa
open Go.RowKit Cv
set_option maxRecDepth 20000
set_option maxHeartbeats 4000000
theorem sgF1_0 : Single 29 := ⟨Try.isAgg29, Try.sizeOf29⟩
theorem sgF1_1 : Single 35 := ⟨Try.isAgg35, Try.sizeOf35⟩
theorem sgF1_2 : Single 39 := ⟨Try.isAgg39, Try.sizeOf39⟩
theorem sgF1_3 : Single 36 := ⟨Try.isAgg36, Try.sizeOf36⟩
theorem sc1_fields : Try.prog.underlying 47 = some (.struct (List.toArray [⟨"right", 29, 0, false, "", "chirograph/sum", 0⟩, ⟨"zero", 35, 1, false, "", "chirograph/sum", 8⟩, ⟨"add", 39, 2, false, "", "chirograph/sum", 16⟩, ⟨"mul", 36, 3, false, "", "chirograph/sum", 24⟩, ⟨"few", 3, 4, false, "", "chirograph/sum", 32⟩])) := Try.underlying47
theorem flSc1 : Flat 47 5 := ⟨Try.isAgg47, Try.sizeOf47⟩
theorem faSc1_0 : FieldAt 47 0 0 := ⟨_, _, 0, sc1_fields, rfl, rfl, Try.sizeOf29⟩
theorem faSc1_1 : FieldAt 47 1 1 := ⟨_, _, 0, sc1_fields, rfl, rfl, Try.sizeOf35⟩
theorem faSc1_2 : FieldAt 47 2 2 := ⟨_, _, 0, sc1_fields, rfl, rfl, Try.sizeOf39⟩
theorem faSc1_3 : FieldAt 47 3 3 := ⟨_, _, 0, sc1_fields, rfl, rfl, Try.sizeOf36⟩
theorem faSc1_4 : FieldAt 47 4 4 := ⟨_, _, 0, sc1_fields, rfl, rfl, Try.sizeOf3⟩
theorem zSc1 (w : World) : (zeroValue 47).run Try.prog w = .ok (sv [.v .nilFunc, .v .nilFunc, .v .nilFunc, .v .nilFunc, .i .i64 0]) w := Try.zeroValue47 w
theorem stSc1 : StructS 47 [.v .nilFunc, .v .nilFunc, .v .nilFunc, .v .nilFunc, .i .i64 0] [(0, 1), (1, 1), (2, 1), (3, 1), (4, 1)] := by
  refine ⟨_, sc1_fields, zSc1, fun w => ?_⟩
  simp [Sem.run_bind, Try.sizeOf29, Try.sizeOf35, Try.sizeOf39, Try.sizeOf36, Try.sizeOf3]
theorem slP1 : SlS 22 28 13 := ⟨Try.underlying22, flG1⟩
theorem slR1 : SlS 23 38 4 := ⟨Try.underlying23, flFr⟩
def sumE1 (S : Nat → E1) (A : Nat → Nat) : Nat → E1
  | 0 => EP.zero
  | k + 1 => (sumE1 S A k).add C1 (EP.times C1 (A k) (S k))
abbrev pt1 (P : E1) : List Seg := [.n 6 (ax P.pt), .n 6 (ay P.pt), .b (ai P.pt)]
theorem cnt_up {k : Nat} (h : k < 1000000) : IntKind.i64.wrap ((k : Int) + 1) = ((k + 1 : Nat) : Int) := by
  rw [wrapI64 (by omega) (by omega)]
  omega
theorem below_here {w0 w w' : World} (h : Below w0.heap.size w0 w) (hb : Bel w w') : Below w0.heap.size w0 w' := below_then h hb.out
theorem onept_eq (P Q : E1) (r : Bool) (h : r = true ↔ P = Q) : r = true ↔ pt1 P = pt1 Q := by
  rw [h]
  exact ⟨fun e => by rw [e], fun e => EP.ext' (gs_inj e)⟩
theorem first1_v : CI 17 #[] (sv [.v (.func (.func 6) #[] #[]), .v (.func (.func 10) #[] #[]), .v (.func (.func 12) #[] #[]), .v (.func (.func 11) #[] #[]), .i .i64 32]) := fun w => by
  go_enter Try.func17, Try.ntmps17
  refine rh1 (brf w) (47) 0 [.v (.nilFunc), .v (.nilFunc), .v (.nilFunc), .v (.nilFunc), .i .i64 0] [0] (fun γ => [pz (γ 0)]) ?_ ?_
  · exact stpb 0 (fun γ w h => ex_allocs (l := [.v (.nilFunc), .v (.nilFunc), .v (.nilFunc), .v (.nilFunc), .i .i64 0]) zSc1) .nil
  intro γ1 w1 hb1 A2 le2 HB3
  refine rhs HB3 le2 1 0 [.v (.func (.func 6) #[] #[]), .v (.func (.func 10) #[] #[]), .v (.func (.func 12) #[] #[]), .v (.func (.func 11) #[] #[]), .i .i64 32] [1] [sv [.v (.func (.func 6) #[] #[]), .v (.func (.func 10) #[] #[]), .v (.func (.func 12) #[] #[]), .v (.func (.func 11) #[] #[]), .i .i64 32]] ?_ ?_
  · refine latv (fun γ w h => ex_builds stSc1 (l := [.v (.func (.func 6) #[] #[]), .v (.func (.func 10) #[] #[]), .v (.func (.func 12) #[] #[]), .v (.func (.func 11) #[] #[]), .i .i64 32]) (vs := [(0, .func (.func 6) #[] #[]), (1, .func (.func 10) #[] #[]), (2, .func (.func 12) #[] #[]), (3, .func (.func 11) #[] #[]), (4, .int .i64 32)]) rfl ((fills_cons 0 1 (m := [.v (.func (.func 6) #[] #[])]) (z' := [.v (.func (.func 6) #[] #[]), .v (.nilFunc), .v (.nilFunc), .v (.nilFunc), .i .i64 0]) rfl rfl rfl rfl rfl rfl).trans ((fills_cons 1 1 (m := [.v (.func (.func 10) #[] #[])]) (z' := [.v (.func (.func 6) #[] #[]), .v (.func (.func 10) #[] #[]), .v (.nilFunc), .v (.nilFunc), .i .i64 0]) rfl rfl rfl rfl rfl rfl).trans ((fills_cons 2 1 (m := [.v (.func (.func 12) #[] #[])]) (z' := [.v (.func (.func 6) #[] #[]), .v (.func (.func 10) #[] #[]), .v (.func (.func 12) #[] #[]), .v (.nilFunc), .i .i64 0]) rfl rfl rfl rfl rfl rfl).trans ((fills_cons 3 1 (m := [.v (.func (.func 11) #[] #[])]) (z' := [.v (.func (.func 6) #[] #[]), .v (.func (.func 10) #[] #[]), .v (.func (.func 12) #[] #[]), .v (.func (.func 11) #[] #[]), .i .i64 0]) rfl rfl rfl rfl rfl rfl).trans ((fills_cons 4 1 (m := [.i .i64 32]) (z' := [.v (.func (.func 6) #[] #[]), .v (.func (.func 10) #[] #[]), .v (.func (.func 12) #[] #[]), .v (.func (.func 11) #[] #[]), .i .i64 32]) rfl (int_cells .i64 32) rfl rfl rfl rfl).trans rfl)))))) ?_
    exact latq 0 5 flSc1.2 A2 .nil
  intro w4 w4_ hb4 hs4 HB8
  have A5 := A2.keep hb4.out
  have A7 := hs4.here 0 5 (l' := [.v (.func (.func 6) #[] #[]), .v (.func (.func 10) #[] #[]), .v (.func (.func 12) #[] #[]), .v (.func (.func 11) #[] #[]), .i .i64 32]) A5 rfl rfl rfl
  exact wpr (ret1 Try.results17 (res_sv rfl A7 flSc1 rfl)) HB8
theorem scPlus1_z1 (P Q : E1) (h1 : P = Z1) : CI 56 #[sv [.v (.func (.func 6) #[] #[]), .v (.func (.func 10) #[] #[]), .v (.func (.func 12) #[] #[]), .v (.func (.func 11) #[] #[]), .i .i64 32], sv [.n 6 (ax P.pt), .n 6 (ay P.pt), .b (ai P.pt)], sv [.n 6 (ax Q.pt), .n 6 (ay Q.pt), .b (ai Q.pt)]] (sv [.n 6 (ax Q.pt), .n 6 (ay Q.pt), .b (ai Q.pt)]) := fun w => by
  go_enter Try.func56, Try.ntmps56
  refine rhc (brf w) [bs (47) 0 [.v (.func (.func 6) #[] #[]), .v (.func (.func 10) #[] #[]), .v (.func (.func 12) #[] #[]), .v (.func (.func 11) #[] #[]), .i .i64 32], bs 28 1 [.n 6 (ax P.pt), .n 6 (ay P.pt), .b (ai P.pt)], bs 28 2 [.n 6 (ax Q.pt), .n 6 (ay Q.pt), .b (ai Q.pt)], bs 28 3 [.n 6 0, .n 6 0, .b false]] [3, 4, 5, 6] (fun γ => [pz (γ 0), pz (γ 1), pz (γ 2), pz (γ 3)]) ?_ ?_
  · refine stpb 0 (fun γ w h => ex_boxs (l := [.v (.func (.func 6) #[] #[]), .v (.func (.func 10) #[] #[]), .v (.func (.func 12) #[] #[]), .v (.func (.func 11) #[] #[]), .i .i64 32]) rfl) ?_
    refine stpb 1 (fun γ w h => ex_boxs (l := [.n 6 (ax P.pt), .n 6 (ay P.pt), .b (ai P.pt)]) rfl) ?_
    refine stpb 2 (fun γ w h => ex_boxs (l := [.n 6 (ax Q.pt), .n 6 (ay Q.pt), .b (ai Q.pt)]) rfl) ?_
    exact stpb 3 (fun γ w h => ex_allocs (l := [.n 6 0, .n 6 0, .b false]) zG1) .nil
  intro γ1 w1 hb1 hB1 hn1 HB6
  have A2 : SB 47 w1 (γ1 0) [.v (.func (.func 6) #[] #[]), .v (.func (.func 10) #[] #[]), .v (.func (.func 12) #[] #[]), .v (.func (.func 11) #[] #[]), .i .i64 32] := (hB1 0 rfl).2
  have A3 : SB 28 w1 (γ1 1) [.n 6 (ax P.pt), .n 6 (ay P.pt), .b (ai P.pt)] := (hB1 1 rfl).2
  have A4 : SB 28 w1 (γ1 2) [.n 6 (ax Q.pt), .n 6 (ay Q.pt), .b (ai Q.pt)] := (hB1 2 rfl).2
  have A5 : SB 28 w1 (γ1 3) [.n 6 0, .n 6 0, .b false] := (hB1 3 rfl).2
  have le5 := (hB1 3 rfl).1
  refine wp_seq ?_
  refine rh0 HB6 [9, 10, 11, 12, 13] [sv [.n 6 (ax P.pt), .n 6 (ay P.pt), .b (ai P.pt)], pq (γ1 0) 1, .func (.func 10) #[] #[], sv [.n 6 (ax Z1.pt), .n 6 (ay Z1.pt), .b (ai Z1.pt)], .bool true] ?_ ?_
  · refine stpv (fun γ w h => ex_loads 0 3 (m := [.n 6 (ax P.pt), .n 6 (ay P.pt), .b (ai P.pt)]) flG1 rfl rfl (A3.keep h.out) rfl rfl) ?_
    refine stpx (fun _ _ => ex_field faSc1_1 rfl) ?_
    refine stpv (fun γ w h => ex_load1 1 (s := .v (.func (.func 10) #[] #[])) (v := .func (.func 10) #[] #[]) sgF1_1 rfl (A2.keep h.out) rfl rfl rfl) ?_
    refine stpk Try.call10 (fun w h => oneZero_p _) ?_
    exact stpx (fun _ _ => ex_eqs gdG1 eqG1 rfl rfl rfl (shG1_of (ax_B P.pt) (ay_B P.pt)) (shG1_of (ax_B Z1.pt) (ay_B Z1.pt)) true (onept_eq P Z1 true (by simp [h1]))) .nil
  intro w7 hb7 HB12
  have A10 := A4.keep hb7.out
  have A11 := A5.keep hb7.out
  refine wp_cond_true rfl ?_
  refine rhs HB12 le5 1 0 [.n 6 (ax Q.pt), .n 6 (ay Q.pt), .b (ai Q.pt)] [14] [sv [.n 6 (ax Q.pt), .n 6 (ay Q.pt), .b (ai Q.pt)]] ?_ ?_
  · refine latv (fun γ w h => ex_loads 0 3 (m := [.n 6 (ax Q.pt), .n 6 (ay Q.pt), .b (ai Q.pt)]) flG1 rfl rfl (A10.keep h.out) rfl rfl) ?_
    exact latq 0 3 flG1.2 A11 .nil
  intro w13 w13_ hb13 hs13 HB23
  have A17 := A11.keep hb13.out
  have A22 := hs13.here 0 3 (l' := [.n 6 (ax Q.pt), .n 6 (ay Q.pt), .b (ai Q.pt)]) A17 rfl rfl rfl
  exact wprt (ret1 Try.results56 (res_sv rfl A22 flG1 rfl)) HB23
theorem scPlus1_z2 (P Q : E1) (h1 : ¬ P = Z1) (h2 : Q = Z1) : CI 56 #[sv [.v (.func (.func 6) #[] #[]), .v (.func (.func 10) #[] #[]), .v (.func (.func 12) #[] #[]), .v (.func (.func 11) #[] #[]), .i .i64 32], sv [.n 6 (ax P.pt), .n 6 (ay P.pt), .b (ai P.pt)], sv [.n 6 (ax Q.pt), .n 6 (ay Q.pt), .b (ai Q.pt)]] (sv [.n 6 (ax P.pt), .n 6 (ay P.pt), .b (ai P.pt)]) := fun w => by
  go_enter Try.func56, Try.ntmps56
  refine rhc (brf w) [bs (47) 0 [.v (.func (.func 6) #[] #[]), .v (.func (.func 10) #[] #[]), .v (.func (.func 12) #[] #[]), .v (.func (.func 11) #[] #[]), .i .i64 32], bs 28 1 [.n 6 (ax P.pt), .n 6 (ay P.pt), .b (ai P.pt)], bs 28 2 [.n 6 (ax Q.pt), .n 6 (ay Q.pt), .b (ai Q.pt)], bs 28 3 [.n 6 0, .n 6 0, .b false]] [3, 4, 5, 6] (fun γ => [pz (γ 0), pz (γ 1), pz (γ 2), pz (γ 3)]) ?_ ?_
  · refine stpb 0 (fun γ w h => ex_boxs (l := [.v (.func (.func 6) #[] #[]), .v (.func (.func 10) #[] #[]), .v (.func (.func 12) #[] #[]), .v (.func (.func 11) #[] #[]), .i .i64 32]) rfl) ?_
    refine stpb 1 (fun γ w h => ex_boxs (l := [.n 6 (ax P.pt), .n 6 (ay P.pt), .b (ai P.pt)]) rfl) ?_
    refine stpb 2 (fun γ w h => ex_boxs (l := [.n 6 (ax Q.pt), .n 6 (ay Q.pt), .b (ai Q.pt)]) rfl) ?_
    exact stpb 3 (fun γ w h => ex_allocs (l := [.n 6 0, .n 6 0, .b false]) zG1) .nil
  intro γ1 w1 hb1 hB1 hn1 HB6
  have A2 : SB 47 w1 (γ1 0) [.v (.func (.func 6) #[] #[]), .v (.func (.func 10) #[] #[]), .v (.func (.func 12) #[] #[]), .v (.func (.func 11) #[] #[]), .i .i64 32] := (hB1 0 rfl).2
  have A3 : SB 28 w1 (γ1 1) [.n 6 (ax P.pt), .n 6 (ay P.pt), .b (ai P.pt)] := (hB1 1 rfl).2
  have A4 : SB 28 w1 (γ1 2) [.n 6 (ax Q.pt), .n 6 (ay Q.pt), .b (ai Q.pt)] := (hB1 2 rfl).2
  have A5 : SB 28 w1 (γ1 3) [.n 6 0, .n 6 0, .b false] := (hB1 3 rfl).2
  have le5 := (hB1 3 rfl).1
  refine wp_seq ?_
  refine rh0 HB6 [9, 10, 11, 12, 13] [sv [.n 6 (ax P.pt), .n 6 (ay P.pt), .b (ai P.pt)], pq (γ1 0) 1, .func (.func 10) #[] #[], sv [.n 6 (ax Z1.pt), .n 6 (ay Z1.pt), .b (ai Z1.pt)], .bool false] ?_ ?_
  · refine stpv (fun γ w h => ex_loads 0 3 (m := [.n 6 (ax P.pt), .n 6 (ay P.pt), .b (ai P.pt)]) flG1 rfl rfl (A3.keep h.out) rfl rfl) ?_
    refine stpx (fun _ _ => ex_field faSc1_1 rfl) ?_
    refine stpv (fun γ w h => ex_load1 1 (s := .v (.func (.func 10) #[] #[])) (v := .func (.func 10) #[] #[]) sgF1_1 rfl (A2.keep h.out) rfl rfl rfl) ?_
    refine stpk Try.call10 (fun w h => oneZero_p _) ?_
    exact stpx (fun _ _ => ex_eqs gdG1 eqG1 rfl rfl rfl (shG1_of (ax_B P.pt) (ay_B P.pt)) (shG1_of (ax_B Z1.pt) (ay_B Z1.pt)) false (onept_eq P Z1 false (by simp [h1]))) .nil
  intro w7 hb7 HB12
  have A8 := A2.keep hb7.out
  have A9 := A3.keep hb7.out
  have A10 := A4.keep hb7.out
  have A11 := A5.keep hb7.out
  refine wp_cond_false rfl ?_
  refine wp_skip ?_
  refine th_r ?_
  refine wp_seq ?_
  refine rh0 HB12 [15, 16, 17, 18, 19] [sv [.n 6 (ax Q.pt), .n 6 (ay Q.pt), .b (ai Q.pt)], pq (γ1 0) 1, .func (.func 10) #[] #[], sv [.n 6 (ax Z1.pt), .n 6 (ay Z1.pt), .b (ai Z1.pt)], .bool true] ?_ ?_
  · refine stpv (fun γ w h => ex_loads 0 3 (m := [.n 6 (ax Q.pt), .n 6 (ay Q.pt), .b (ai Q.pt)]) flG1 rfl rfl (A10.keep h.out) rfl rfl) ?_
    refine stpx (fun _ _ => ex_field faSc1_1 rfl) ?_
    refine stpv (fun γ w h => ex_load1 1 (s := .v (.func (.func 10) #[] #[])) (v := .func (.func 10) #[] #[]) sgF1_1 rfl (A8.keep h.out) rfl rfl rfl) ?_
    refine stpk Try.call10 (fun w h => oneZero_p _) ?_
    exact stpx (fun _ _ => ex_eqs gdG1 eqG1 rfl rfl rfl (shG1_of (ax_B Q.pt) (ay_B Q.pt)) (shG1_of (ax_B Z1.pt) (ay_B Z1.pt)) true (onept_eq Q Z1 true (by simp [h2]))) .nil
  intro w13 hb13 HB18
  have A15 := A9.keep hb13.out
  have A17 := A11.keep hb13.out
  refine wp_cond_true rfl ?_
  refine rhs HB18 le5 1 0 [.n 6 (ax P.pt), .n 6 (ay P.pt), .b (ai P.pt)] [20] [sv [.n 6 (ax P.pt), .n 6 (ay P.pt), .b (ai P.pt)]] ?_ ?_
  · refine latv (fun γ w h => ex_loads 0 3 (m := [.n 6 (ax P.pt), .n 6 (ay P.pt), .b (ai P.pt)]) flG1 rfl rfl (A15.keep h.out) rfl rfl) ?_
    exact latq 0 3 flG1.2 A17 .nil
  intro w19 w19_ hb19 hs19 HB29
  have A23 := A17.keep hb19.out
  have A28 := hs19.here 0 3 (l' := [.n 6 (ax P.pt), .n 6 (ay P.pt), .b (ai P.pt)]) A23 rfl rfl rfl
  exact wprt (ret1 Try.results56 (res_sv rfl A28 flG1 rfl)) HB29
theorem scPlus1_no (P Q R : E1) (h1 : ¬ P = Z1) (h2 : ¬ Q = Z1) (hs : P.add C1 Q = R) : CI 56 #[sv [.v (.func (.func 6) #[] #[]), .v (.func (.func 10) #[] #[]), .v (.func (.func 12) #[] #[]), .v (.func (.func 11) #[] #[]), .i .i64 32], sv [.n 6 (ax P.pt), .n 6 (ay P.pt), .b (ai P.pt)], sv [.n 6 (ax Q.pt), .n 6 (ay Q.pt), .b (ai Q.pt)]] (sv [.n 6 (ax R.pt), .n 6 (ay R.pt), .b (ai R.pt)]) := fun w => by
  go_enter Try.func56, Try.ntmps56
  refine rhc (brf w) [bs (47) 0 [.v (.func (.func 6) #[] #[]), .v (.func (.func 10) #[] #[]), .v (.func (.func 12) #[] #[]), .v (.func (.func 11) #[] #[]), .i .i64 32], bs 28 1 [.n 6 (ax P.pt), .n 6 (ay P.pt), .b (ai P.pt)], bs 28 2 [.n 6 (ax Q.pt), .n 6 (ay Q.pt), .b (ai Q.pt)], bs 28 3 [.n 6 0, .n 6 0, .b false]] [3, 4, 5, 6] (fun γ => [pz (γ 0), pz (γ 1), pz (γ 2), pz (γ 3)]) ?_ ?_
  · refine stpb 0 (fun γ w h => ex_boxs (l := [.v (.func (.func 6) #[] #[]), .v (.func (.func 10) #[] #[]), .v (.func (.func 12) #[] #[]), .v (.func (.func 11) #[] #[]), .i .i64 32]) rfl) ?_
    refine stpb 1 (fun γ w h => ex_boxs (l := [.n 6 (ax P.pt), .n 6 (ay P.pt), .b (ai P.pt)]) rfl) ?_
    refine stpb 2 (fun γ w h => ex_boxs (l := [.n 6 (ax Q.pt), .n 6 (ay Q.pt), .b (ai Q.pt)]) rfl) ?_
    exact stpb 3 (fun γ w h => ex_allocs (l := [.n 6 0, .n 6 0, .b false]) zG1) .nil
  intro γ1 w1 hb1 hB1 hn1 HB6
  have A2 : SB 47 w1 (γ1 0) [.v (.func (.func 6) #[] #[]), .v (.func (.func 10) #[] #[]), .v (.func (.func 12) #[] #[]), .v (.func (.func 11) #[] #[]), .i .i64 32] := (hB1 0 rfl).2
  have A3 : SB 28 w1 (γ1 1) [.n 6 (ax P.pt), .n 6 (ay P.pt), .b (ai P.pt)] := (hB1 1 rfl).2
  have A4 : SB 28 w1 (γ1 2) [.n 6 (ax Q.pt), .n 6 (ay Q.pt), .b (ai Q.pt)] := (hB1 2 rfl).2
  have A5 : SB 28 w1 (γ1 3) [.n 6 0, .n 6 0, .b false] := (hB1 3 rfl).2
  have le5 := (hB1 3 rfl).1
  refine wp_seq ?_
  refine rh0 HB6 [9, 10, 11, 12, 13] [sv [.n 6 (ax P.pt), .n 6 (ay P.pt), .b (ai P.pt)], pq (γ1 0) 1, .func (.func 10) #[] #[], sv [.n 6 (ax Z1.pt), .n 6 (ay Z1.pt), .b (ai Z1.pt)], .bool false] ?_ ?_
  · refine stpv (fun γ w h => ex_loads 0 3 (m := [.n 6 (ax P.pt), .n 6 (ay P.pt), .b (ai P.pt)]) flG1 rfl rfl (A3.keep h.out) rfl rfl) ?_
    refine stpx (fun _ _ => ex_field faSc1_1 rfl) ?_
    refine stpv (fun γ w h => ex_load1 1 (s := .v (.func (.func 10) #[] #[])) (v := .func (.func 10) #[] #[]) sgF1_1 rfl (A2.keep h.out) rfl rfl rfl) ?_
    refine stpk Try.call10 (fun w h => oneZero_p _) ?_
    exact stpx (fun _ _ => ex_eqs gdG1 eqG1 rfl rfl rfl (shG1_of (ax_B P.pt) (ay_B P.pt)) (shG1_of (ax_B Z1.pt) (ay_B Z1.pt)) false (onept_eq P Z1 false (by simp [h1]))) .nil
  intro w7 hb7 HB12
  have A8 := A2.keep hb7.out
  have A9 := A3.keep hb7.out
  have A10 := A4.keep hb7.out
  have A11 := A5.keep hb7.out
  refine wp_cond_false rfl ?_
  refine wp_skip ?_
  refine th_r ?_
  refine wp_seq ?_
  refine rh0 HB12 [15, 16, 17, 18, 19] [sv [.n 6 (ax Q.pt), .n 6 (ay Q.pt), .b (ai Q.pt)], pq (γ1 0) 1, .func (.func 10) #[] #[], sv [.n 6 (ax Z1.pt), .n 6 (ay Z1.pt), .b (ai Z1.pt)], .bool false] ?_ ?_
  · refine stpv (fun γ w h => ex_loads 0 3 (m := [.n 6 (ax Q.pt), .n 6 (ay Q.pt), .b (ai Q.pt)]) flG1 rfl rfl (A10.keep h.out) rfl rfl) ?_
    refine stpx (fun _ _ => ex_field faSc1_1 rfl) ?_
    refine stpv (fun γ w h => ex_load1 1 (s := .v (.func (.func 10) #[] #[])) (v := .func (.func 10) #[] #[]) sgF1_1 rfl (A8.keep h.out) rfl rfl rfl) ?_
    refine stpk Try.call10 (fun w h => oneZero_p _) ?_
    exact stpx (fun _ _ => ex_eqs gdG1 eqG1 rfl rfl rfl (shG1_of (ax_B Q.pt) (ay_B Q.pt)) (shG1_of (ax_B Z1.pt) (ay_B Z1.pt)) false (onept_eq Q Z1 false (by simp [h2]))) .nil
  intro w13 hb13 HB18
  have A14 := A8.keep hb13.out
  have A15 := A9.keep hb13.out
  have A16 := A10.keep hb13.out
  have A17 := A11.keep hb13.out
  refine wp_cond_false rfl ?_
  refine wp_skip ?_
  refine th_r ?_
  refine rhc HB18 [(28, 8, 9, [.n 6 0, .n 6 0, .b false], [.n 6 (ax R.pt), .n 6 (ay R.pt), .b (ai R.pt)])] [22, 23, 24, 25, 26, 21, 27, 28, 7, 8] (fun γ => [pq (γ1 0) 2, .func (.func 12) #[] #[], sv [.n 6 (ax P.pt), .n 6 (ay P.pt), .b (ai P.pt)], sv [.n 6 (ax Q.pt), .n 6 (ay Q.pt), .b (ai Q.pt)], .tuple #[sv [.n 6 (ax R.pt), .n 6 (ay R.pt), .b (ai R.pt)], .int .i64 0], .tuple #[sv [.n 6 (ax R.pt), .n 6 (ay R.pt), .b (ai R.pt)], .int .i64 0], sv [.n 6 (ax R.pt), .n 6 (ay R.pt), .b (ai R.pt)], .int .i64 0, pz (γ 0), .int .i64 0]) ?_ ?_
  · refine stpx (fun _ _ => ex_field faSc1_2 rfl) ?_
    refine stpv (fun γ w h => ex_load1 2 (s := .v (.func (.func 12) #[] #[])) (v := .func (.func 12) #[] #[]) sgF1_2 rfl (A14.keep h.out) rfl rfl rfl) ?_
    refine stpv (fun γ w h => ex_loads 0 3 (m := [.n 6 (ax P.pt), .n 6 (ay P.pt), .b (ai P.pt)]) flG1 rfl rfl (A15.keep h.out) rfl rfl) ?_
    refine stpv (fun γ w h => ex_loads 0 3 (m := [.n 6 (ax Q.pt), .n 6 (ay Q.pt), .b (ai Q.pt)]) flG1 rfl rfl (A16.keep h.out) rfl rfl) ?_
    refine stpk Try.call12 (fun w h => oneAdd_p P Q R hs _) ?_
    refine stpm ?_
    refine stpx (fun _ _ => ex_extract rfl rfl) ?_
    refine stpx (fun _ _ => ex_extract rfl rfl) ?_
    refine stpn 0 (fun γ w => ex_allocs (l := [.n 6 0, .n 6 0, .b false]) zG1) ?_
    refine stpq 0 0 3 flG1.2 ?_
    exact stpa .nil
  intro γ19 w19 hb19 hB19 _ HB25
  have A23 := A17.keep hb19.out
  have A24 : SB 28 w19 (γ19 0) [.n 6 (ax R.pt), .n 6 (ay R.pt), .b (ai R.pt)] := (hB19 0 rfl).2
  refine rhs HB25 le5 1 0 [.n 6 (ax R.pt), .n 6 (ay R.pt), .b (ai R.pt)] [29] [sv [.n 6 (ax R.pt), .n 6 (ay R.pt), .b (ai R.pt)]] ?_ ?_
  · refine latv (fun γ w h => ex_loads 0 3 (m := [.n 6 (ax R.pt), .n 6 (ay R.pt), .b (ai R.pt)]) flG1 rfl rfl (A24.keep h.out) rfl rfl) ?_
    exact latq 0 3 flG1.2 A23 .nil
  intro w26 w26_ hb26 hs26 HB38
  have A30 := A23.keep hb26.out
  have A36 := hs26.here 0 3 (l' := [.n 6 (ax R.pt), .n 6 (ay R.pt), .b (ai R.pt)]) A30 rfl rfl rfl
  exact wpr (ret1 Try.results56 (res_sv rfl A36 flG1 rfl)) HB38
theorem scPlus1_p (P Q R : E1) (hs : P.add C1 Q = R) (w : World) : Calls Try.prog 56 #[sv [.v (.func (.func 6) #[] #[]), .v (.func (.func 10) #[] #[]), .v (.func (.func 12) #[] #[]), .v (.func (.func 11) #[] #[]), .i .i64 32], sv [.n 6 (ax P.pt), .n 6 (ay P.pt), .b (ai P.pt)], sv [.n 6 (ax Q.pt), .n 6 (ay Q.pt), .b (ai Q.pt)]] w (Is (sv [.n 6 (ax R.pt), .n 6 (ay R.pt), .b (ai R.pt)]) w) := by
  by_cases h1 : P = Z1
  · obtain rfl : Q = R := by rw [← hs, h1]; exact (EP.zero_add _ _).symm
    exact scPlus1_z1 P Q h1 w
  · by_cases h2 : Q = Z1
    · obtain rfl : P = R := by rw [← hs, h2]; exact (EP.add_zero _ _).symm
      exact scPlus1_z2 P Q h1 h2 w
    · exact scPlus1_no P Q R h1 h2 hs w
theorem scTimes1_p (P R : E1) (k : Nat) (hk : k < frB) (hs : EP.times C1 k P = R) : CI 57 #[sv [.v (.func (.func 6) #[] #[]), .v (.func (.func 10) #[] #[]), .v (.func (.func 12) #[] #[]), .v (.func (.func 11) #[] #[]), .i .i64 32], sv [.n 6 (ax P.pt), .n 6 (ay P.pt), .b (ai P.pt)], nv 4 [k]] (sv [.n 6 (ax R.pt), .n 6 (ay R.pt), .b (ai R.pt)]) := fun w => by
  go_enter Try.func57, Try.ntmps57
  refine rhc (brf w) [bs (47) 0 [.v (.func (.func 6) #[] #[]), .v (.func (.func 10) #[] #[]), .v (.func (.func 12) #[] #[]), .v (.func (.func 11) #[] #[]), .i .i64 32], bs 28 1 [.n 6 (ax P.pt), .n 6 (ay P.pt), .b (ai P.pt)], bs 38 2 [.n 4 k], bs 28 3 [.n 6 0, .n 6 0, .b false]] [3, 4, 5, 6] (fun γ => [pz (γ 0), pz (γ 1), pz (γ 2), pz (γ 3)]) ?_ ?_
  · refine stpb 0 (fun γ w h => ex_boxs (l := [.v (.func (.func 6) #[] #[]), .v (.func (.func 10) #[] #[]), .v (.func (.func 12) #[] #[]), .v (.func (.func 11) #[] #[]), .i .i64 32]) rfl) ?_
    refine stpb 1 (fun γ w h => ex_boxs (l := [.n 6 (ax P.pt), .n 6 (ay P.pt), .b (ai P.pt)]) rfl) ?_
    refine stpb 2 (fun γ w h => ex_boxsn (K := 4) (l := [k]) rfl) ?_
    exact stpb 3 (fun γ w h => ex_allocs (l := [.n 6 0, .n 6 0, .b false]) zG1) .nil
  intro γ1 w1 hb1 hB1 hn1 HB6
  have A2 : SB 47 w1 (γ1 0) [.v (.func (.func 6) #[] #[]), .v (.func (.func 10) #[] #[]), .v (.func (.func 12) #[] #[]), .v (.func (.func 11) #[] #[]), .i .i64 32] := (hB1 0 rfl).2
  have A3 : SB 28 w1 (γ1 1) [.n 6 (ax P.pt), .n 6 (ay P.pt), .b (ai P.pt)] := (hB1 1 rfl).2
  have A4 : SB 38 w1 (γ1 2) [.n 4 k] := (hB1 2 rfl).2
  have A5 : SB 28 w1 (γ1 3) [.n 6 0, .n 6 0, .b false] := (hB1 3 rfl).2
  have le5 := (hB1 3 rfl).1
  refine rhc HB6 [(28, 8, 9, [.n 6 0, .n 6 0, .b false], [.n 6 (ax R.pt), .n 6 (ay R.pt), .b (ai R.pt)])] [10, 11, 12, 13, 14, 9, 15, 16, 7, 8] (fun γ => [pq (γ1 0) 3, .func (.func 11) #[] #[], sv [.n 6 (ax P.pt), .n 6 (ay P.pt), .b (ai P.pt)], nv 4 [k], .tuple #[sv [.n 6 (ax R.pt), .n 6 (ay R.pt), .b (ai R.pt)], .int .i64 0], .tuple #[sv [.n 6 (ax R.pt), .n 6 (ay R.pt), .b (ai R.pt)], .int .i64 0], sv [.n 6 (ax R.pt), .n 6 (ay R.pt), .b (ai R.pt)], .int .i64 0, pz (γ 0), .int .i64 0]) ?_ ?_
  · refine stpx (fun _ _ => ex_field faSc1_3 rfl) ?_
    refine stpv (fun γ w h => ex_load1 3 (s := .v (.func (.func 11) #[] #[])) (v := .func (.func 11) #[] #[]) sgF1_3 rfl (A2.keep h.out) rfl rfl rfl) ?_
    refine stpv (fun γ w h => ex_loads 0 3 (m := [.n 6 (ax P.pt), .n 6 (ay P.pt), .b (ai P.pt)]) flG1 rfl rfl (A3.keep h.out) rfl rfl) ?_
    refine stpv (fun γ w h => ex_loadsn (K := 4) 0 1 (m := [k]) flFr rfl rfl (A4.keep h.out) rfl rfl) ?_
    refine stpk Try.call11 (fun w h => oneMul_p P R k hk hs _) ?_
    refine stpm ?_
    refine stpx (fun _ _ => ex_extract rfl rfl) ?_
    refine stpx (fun _ _ => ex_extract rfl rfl) ?_
    refine stpn 0 (fun γ w => ex_allocs (l := [.n 6 0, .n 6 0, .b false]) zG1) ?_
    refine stpq 0 0 3 flG1.2 ?_
    exact stpa .nil
  intro γ7 w7 hb7 hB7 _ HB13
  have A11 := A5.keep hb7.out
  have A12 : SB 28 w7 (γ7 0) [.n 6 (ax R.pt), .n 6 (ay R.pt), .b (ai R.pt)] := (hB7 0 rfl).2
  refine rhs HB13 le5 1 0 [.n 6 (ax R.pt), .n 6 (ay R.pt), .b (ai R.pt)] [17] [sv [.n 6 (ax R.pt), .n 6 (ay R.pt), .b (ai R.pt)]] ?_ ?_
  · refine latv (fun γ w h => ex_loads 0 3 (m := [.n 6 (ax R.pt), .n 6 (ay R.pt), .b (ai R.pt)]) flG1 rfl rfl (A12.keep h.out) rfl rfl) ?_
    exact latq 0 3 flG1.2 A11 .nil
  intro w14 w14_ hb14 hs14 HB26
  have A18 := A11.keep hb14.out
  have A24 := hs14.here 0 3 (l' := [.n 6 (ax R.pt), .n 6 (ay R.pt), .b (ai R.pt)]) A18 rfl rfl rfl
  exact wpr (ret1 Try.results57 (res_sv rfl A24 flG1 rfl)) HB26
theorem scOnes1_p (m : Nat) (hm : m ≤ 4096) (S : Nat → E1) (A : Nat → Nat) (ap ak : Option Addr) (cp ck : Nat) (HA : ∀ i, i < m → A i < frB) (w : World) (HP : Row w ap 13 m (fun i => pt1 (S i))) (HK : Row w ak 4 m (fun i => [.n 4 (A i)])) :
    Calls Try.prog 35 #[sv [.v (.func (.func 6) #[] #[]), .v (.func (.func 10) #[] #[]), .v (.func (.func 12) #[] #[]), .v (.func (.func 11) #[] #[]), .i .i64 32], .slice ap m cp, .slice ak m ck] w (Is (sv [.n 6 (ax (((sumE1 S A m)).pt)), .n 6 (ay (((sumE1 S A m)).pt)), .b (ai (((sumE1 S A m)).pt))]) w) := by
  go_enter Try.func35, Try.ntmps35
  refine rh2 (brf w) (47) 0 [.v (.func (.func 6) #[] #[]), .v (.func (.func 10) #[] #[]), .v (.func (.func 12) #[] #[]), .v (.func (.func 11) #[] #[]), .i .i64 32] 28 1 [.n 6 0, .n 6 0, .b false] [3, 6] (fun γ => [pz (γ 0), pz (γ 1)]) ?_ ?_
  · refine stpb 0 (fun γ w h => ex_boxs (l := [.v (.func (.func 6) #[] #[]), .v (.func (.func 10) #[] #[]), .v (.func (.func 12) #[] #[]), .v (.func (.func 11) #[] #[]), .i .i64 32]) rfl) ?_
    exact stpb 1 (fun γ w h => ex_allocs (l := [.n 6 0, .n 6 0, .b false]) zG1) .nil
  intro γ1 w1 hb1 A2 A3 _ le3 hn1 HB4
  refine rhc HB4 [(28, 3, 4, [.n 6 0, .n 6 0, .b false], [.n 6 (ax Z1.pt), .n 6 (ay Z1.pt), .b (ai Z1.pt)])] [10, 11, 12, 7] (fun γ => [pq (γ1 0) 1, .func (.func 10) #[] #[], sv [.n 6 (ax Z1.pt), .n 6 (ay Z1.pt), .b (ai Z1.pt)], pz (γ 0)]) ?_ ?_
  · refine stpx (fun _ _ => ex_field faSc1_1 rfl) ?_
    refine stpv (fun γ w h => ex_load1 1 (s := .v (.func (.func 10) #[] #[])) (v := .func (.func 10) #[] #[]) sgF1_1 rfl (A2.keep h.out) rfl rfl rfl) ?_
    refine stpk Try.call10 (fun w h => oneZero_p _) ?_
    refine stpn 0 (fun γ w => ex_allocs (l := [.n 6 0, .n 6 0, .b false]) zG1) ?_
    exact stpq 0 0 3 flG1.2 .nil
  intro γ5 w5 hb5 hB5 _ HB9
  have A6 := A2.keep hb5.out
  have A7 := A3.keep hb5.out
  have A8 : SB 28 w5 (γ5 0) [.n 6 (ax Z1.pt), .n 6 (ay Z1.pt), .b (ai Z1.pt)] := (hB5 0 rfl).2
  have le8 := (hB5 0 rfl).1
  refine wp_seq ?_
  refine rh0 HB9 [13, 14, 15] [.slice ap m cp, .int .i64 ((m : Nat) : Int), .int .i64 0] ?_ ?_
  · refine stpm ?_
    refine stpx (fun _ _ => ex_lenR slP1 (m := m) rfl) ?_
    exact stpm .nil
  intro w10 hb10 HB14
  have A11 := A6.keep hb10.out
  have A12 := A7.keep hb10.out
  have A13 := A8.keep hb10.out
  refine wp_block ?_
  refine wp_loop_by (m) (fun q_ a_ v_ => ∃ j8 j9 j16 j17 j18 j19 j20 j21 j22 j23 j24 j25 j26 j27 j28 j29 j30 : Value, a_ = ⟨List.toArray ((sv [.v (.func (.func 6) #[] #[]), .v (.func (.func 10) #[] #[]), .v (.func (.func 12) #[] #[]), .v (.func (.func 11) #[] #[]), .i .i64 32]) :: (.slice ap m cp) :: (.slice ak m ck) :: (pz (γ1 0)) :: undef :: undef :: (pz (γ1 1)) :: (pz (γ5 0)) :: j8 :: j9 :: (pq (γ1 0) 1) :: (.func (.func 10) #[] #[]) :: (sv [.n 6 (ax Z1.pt), .n 6 (ay Z1.pt), .b (ai Z1.pt)]) :: (.slice ap m cp) :: (.int .i64 ((m : Nat) : Int)) :: (.int .i64 ((q_ : Nat) : Int)) :: j16 :: j17 :: j18 :: j19 :: j20 :: j21 :: j22 :: j23 :: j24 :: j25 :: j26 :: j27 :: j28 :: j29 :: j30 :: undef :: []), []⟩ ∧ SB 47 v_ (γ1 0) [.v (.func (.func 6) #[] #[]), .v (.func (.func 10) #[] #[]), .v (.func (.func 12) #[] #[]), .v (.func (.func 11) #[] #[]), .i .i64 32] ∧ SB 28 v_ (γ1 1) [.n 6 0, .n 6 0, .b false] ∧ SB 28 v_ (γ5 0) [.n 6 (ax (((sumE1 S A q_)).pt)), .n 6 (ay (((sumE1 S A q_)).pt)), .b (ai (((sumE1 S A q_)).pt))] ∧ Below w.heap.size w v_) ⟨_, _, _, _, _, _, _, _, _, _, _, _, _, _, _, _, _, rfl, A11, A12, A13, HB14⟩ ?_ ?_
  · intro k15 hk15
    rintro _ w15 ⟨i15_8, i15_9, i15_16, i15_17, i15_18, i15_19, i15_20, i15_21, i15_22, i15_23, i15_24, i15_25, i15_26, i15_27, i15_28, i15_29, i15_30, rfl, A15_0, A15_1, A15_2, HB15⟩ K15 hK15
    have hq := hk15
    refine rh0 HB15 [16] [.bool true] ?_ ?_
    · exact stpx (fun _ _ => ex_ilss rfl rfl true (by rw [eq_comm, decide_eq_true_eq]; omega)) .nil
    intro w16 hb16 HB20
    have A17 := A15_0.keep hb16.out
    have A18 := A15_1.keep hb16.out
    have A19 := A15_2.keep hb16.out
    refine wp_seq ?_
    refine wp_cond_true rfl ?_
    refine wp_skip ?_
    refine th_r ?_
    refine wp_seq ?_
    refine wp_block ?_
    obtain ⟨g21, o21, ha21, lg21, hr21⟩ := (HP.keep HB20) k15 hq
    skip
    · refine rhc HB20 [(28, 3, 5, [.n 6 0, .n 6 0, .b false], [.n 6 (ax ((S k15).pt)), .n 6 (ay ((S k15).pt)), .b (ai ((S k15).pt))])] [17, 18, 19, 9, 8] (fun γ => [.int .i64 ((k15 : Nat) : Int), .pointer (some ⟨g21, o21 + 13 * k15, none⟩), sv [.n 6 (ax ((S k15).pt)), .n 6 (ay ((S k15).pt)), .b (ai ((S k15).pt))], pz (γ 0), .int .i64 ((k15 : Nat) : Int)]) ?_ ?_
      · refine stpm ?_
        refine stpx (fun _ _ => ex_idxR slP1 (a := ap) (m := m) (c := cp) (i := k15) rfl ha21 rfl hq) ?_
        refine stpv (fun γ w h => ex_loadR (l := [.n 6 (ax ((S k15).pt)), .n 6 (ay ((S k15).pt)), .b (ai ((S k15).pt))]) flG1 rfl rfl (range_keep lg21 h.out hr21)) ?_
        refine stpn 0 (fun γ w => ex_allocs (l := [.n 6 0, .n 6 0, .b false]) zG1) ?_
        refine stpa ?_
        exact stpq 0 0 3 flG1.2 .nil
      intro γ22 w22 hb22 hB22 _ HB27
      have A23 := A17.keep hb22.out
      have A24 := A18.keep hb22.out
      have A25 := A19.keep hb22.out
      have A26 : SB 28 w22 (γ22 0) [.n 6 (ax ((S k15).pt)), .n 6 (ay ((S k15).pt)), .b (ai ((S k15).pt))] := (hB22 0 rfl).2
      obtain ⟨g28, o28, ha28, lg28, hr28⟩ := (HK.keep HB27) k15 hq
      skip
      · refine region_s 10 ((γ5 0)) 0 (segs [.n 6 (ax (((sumE1 S A (k15 + 1))).pt)), .n 6 (ay (((sumE1 S A (k15 + 1))).pt)), .b (ai (((sumE1 S A (k15 + 1))).pt))]) [20, 21, 22, 23, 24, 25, 26, 27, 28, 29] [sv [.v (.func (.func 6) #[] #[]), .v (.func (.func 10) #[] #[]), .v (.func (.func 12) #[] #[]), .v (.func (.func 11) #[] #[]), .i .i64 32], sv [.n 6 (ax (((sumE1 S A k15)).pt)), .n 6 (ay (((sumE1 S A k15)).pt)), .b (ai (((sumE1 S A k15)).pt))], sv [.v (.func (.func 6) #[] #[]), .v (.func (.func 10) #[] #[]), .v (.func (.func 12) #[] #[]), .v (.func (.func 11) #[] #[]), .i .i64 32], sv [.n 6 (ax ((S k15).pt)), .n 6 (ay ((S k15).pt)), .b (ai ((S k15).pt))], .slice ak m ck, .int .i64 ((k15 : Nat) : Int), .pointer (some ⟨g28, o28 + 4 * k15, none⟩), nv 4 [(A k15)], sv [.n 6 (ax (((EP.times C1 (A k15) (S k15))).pt)), .n 6 (ay (((EP.times C1 (A k15) (S k15))).pt)), .b (ai (((EP.times C1 (A k15) (S k15))).pt))], sv [.n 6 (ax (((sumE1 S A (k15 + 1))).pt)), .n 6 (ay (((sumE1 S A (k15 + 1))).pt)), .b (ai (((sumE1 S A (k15 + 1))).pt))]] ?_ ?_
        · refine latv (fun γ w h => ex_loads 0 5 (m := [.v (.func (.func 6) #[] #[]), .v (.func (.func 10) #[] #[]), .v (.func (.func 12) #[] #[]), .v (.func (.func 11) #[] #[]), .i .i64 32]) flSc1 rfl rfl (A23.keep h.out) rfl rfl) ?_
          refine latv (fun γ w h => ex_loads 0 3 (m := [.n 6 (ax (((sumE1 S A k15)).pt)), .n 6 (ay (((sumE1 S A k15)).pt)), .b (ai (((sumE1 S A k15)).pt))]) flG1 rfl rfl (A25.keep h.out) rfl rfl) ?_
          refine latv (fun γ w h => ex_loads 0 5 (m := [.v (.func (.func 6) #[] #[]), .v (.func (.func 10) #[] #[]), .v (.func (.func 12) #[] #[]), .v (.func (.func 11) #[] #[]), .i .i64 32]) flSc1 rfl rfl (A23.keep h.out) rfl rfl) ?_
          refine latv (fun γ w h => ex_loads 0 3 (m := [.n 6 (ax ((S k15).pt)), .n 6 (ay ((S k15).pt)), .b (ai ((S k15).pt))]) flG1 rfl rfl (A26.keep h.out) rfl rfl) ?_
          refine latm ?_
          refine latm ?_
          refine latv (fun γ w h => ex_idxR slR1 (a := ak) (m := m) (c := ck) (i := k15) rfl ha28 rfl hq) ?_
          refine latv (fun γ w h => ex_loadRn (K := 4) (v := (A k15)) flFr rfl (range_keep lg28 h.out hr28)) ?_
          refine latk Try.call57 (fun w h => scTimes1_p (S k15) _ (A k15) (HA k15 hk15) rfl _) ?_
          refine latk Try.call56 (fun w h => scPlus1_p (sumE1 S A k15) (EP.times C1 (A k15) (S k15)) _ rfl _) ?_
          exact latq 0 3 flG1.2 A25 .nil
        intro w29 w29_ hb29 hs29
        have A30 := A23.keep hb29.out
        have A31 := A24.keep hb29.out
        have A32 := A25.keep hb29.out
        have HB34 := below_then HB27 hb29.out
        have A35 := hs29.other (nelt (ltle A2.lt le8)) A30
        have A36 := hs29.other (nelt (ltle A3.lt le8)) A31
        have A37 := hs29.here 0 3 (l' := [.n 6 (ax (((sumE1 S A (k15 + 1))).pt)), .n 6 (ay (((sumE1 S A (k15 + 1))).pt)), .b (ai (((sumE1 S A (k15 + 1))).pt))]) A32 rfl rfl rfl
        have HB39 := hs29.below HB34 (Nat.le_trans HB4.size le8)
        refine bk_n ?_
        refine th_r ?_
        refine wp_region_lit ?_
        refine sv1 (.int .i64 ((k15 + 1 : Nat) : Int)) (ex_iadd rfl rfl ((k15 + 1 : Nat) : Int) (cnt_up (by omega))) ?_
        refine svm (.int .i64 ((k15 + 1 : Nat) : Int)) ?_
        refine wpList_nil ?_
        refine th_r ?_
        exact hK15.out _ _ ⟨_, _, _, _, _, _, _, _, _, _, _, _, _, _, _, _, _, rfl, A35, A36, A37, HB39⟩
  · rintro _ w40 ⟨i40_8, i40_9, i40_16, i40_17, i40_18, i40_19, i40_20, i40_21, i40_22, i40_23, i40_24, i40_25, i40_26, i40_27, i40_28, i40_29, i40_30, rfl, A40_0, A40_1, A40_2, HB40⟩ K40
    refine rh0 HB40 [16] [.bool false] ?_ ?_
    · exact stpx (fun _ _ => ex_ilss rfl rfl false (by rw [eq_comm, decide_eq_false_iff_not]; omega)) .nil
    intro w41 hb41 HB45
    have A43 := A40_1.keep hb41.out
    have A44 := A40_2.keep hb41.out
    refine wp_seq ?_
    refine wp_cond_false rfl ?_
    refine wp_exit (th_e (th_e (bk_e ?_)))
    refine th_r ?_
    refine rhs HB45 le3 1 0 [.n 6 (ax (((sumE1 S A m)).pt)), .n 6 (ay (((sumE1 S A m)).pt)), .b (ai (((sumE1 S A m)).pt))] [31] [sv [.n 6 (ax (((sumE1 S A m)).pt)), .n 6 (ay (((sumE1 S A m)).pt)), .b (ai (((sumE1 S A m)).pt))]] ?_ ?_
    · refine latv (fun γ w h => ex_loads 0 3 (m := [.n 6 (ax (((sumE1 S A m)).pt)), .n 6 (ay (((sumE1 S A m)).pt)), .b (ai (((sumE1 S A m)).pt))]) flG1 rfl rfl (A44.keep h.out) rfl rfl) ?_
      exact latq 0 3 flG1.2 A43 .nil
    intro w46 w46_ hb46 hs46 HB54
    have A48 := A43.keep hb46.out
    have A52 := hs46.here 0 3 (l' := [.n 6 (ax (((sumE1 S A m)).pt)), .n 6 (ay (((sumE1 S A m)).pt)), .b (ai (((sumE1 S A m)).pt))]) A48 rfl rfl rfl
    exact wpr (ret1 Try.results35 (res_sv rfl A52 flG1 rfl)) HB54
theorem scFew1_p (m : Nat) (hm : m ≤ 4096) (S : Nat → E1) (A : Nat → Nat) (ap ak : Option Addr) (cp ck : Nat) (hf : m < 32) (HA : ∀ i, i < m → A i < frB) (w : World) (HP : Row w ap 13 m (fun i => pt1 (S i))) (HK : Row w ak 4 m (fun i => [.n 4 (A i)])) :
    Calls Try.prog 18 #[sv [.v (.func (.func 6) #[] #[]), .v (.func (.func 10) #[] #[]), .v (.func (.func 12) #[] #[]), .v (.func (.func 11) #[] #[]), .i .i64 32], .slice ap m cp, .slice ak m ck] w (Is (.tuple #[sv [.n 6 (ax (((sumE1 S A m)).pt)), .n 6 (ay (((sumE1 S A m)).pt)), .b (ai (((sumE1 S A m)).pt))], .int .i64 0]) w) := by
  go_enter Try.func18, Try.ntmps18
  refine rh2 (brf w) (47) 0 [.v (.func (.func 6) #[] #[]), .v (.func (.func 10) #[] #[]), .v (.func (.func 12) #[] #[]), .v (.func (.func 11) #[] #[]), .i .i64 32] 28 1 [.n 6 0, .n 6 0, .b false] [3, 6, 7] (fun γ => [pz (γ 0), pz (γ 1), .int .i64 0]) ?_ ?_
  · refine stpb 0 (fun γ w h => ex_boxs (l := [.v (.func (.func 6) #[] #[]), .v (.func (.func 10) #[] #[]), .v (.func (.func 12) #[] #[]), .v (.func (.func 11) #[] #[]), .i .i64 32]) rfl) ?_
    refine stpb 1 (fun γ w h => ex_allocs (l := [.n 6 0, .n 6 0, .b false]) zG1) ?_
    exact stpa .nil
  intro γ1 w1 hb1 A2 A3 _ le3 hn1 HB4
  refine rh1 HB4 28 0 [.n 6 0, .n 6 0, .b false] [8] (fun γ => [pz (γ 0)]) ?_ ?_
  · exact stpb 0 (fun γ w h => ex_allocs (l := [.n 6 0, .n 6 0, .b false]) zG1) .nil
  intro γ5 w5 hb5 A8 _ HB9
  have A6 := A2.keep hb5.out
  have A7 := A3.keep hb5.out
  refine wp_seq ?_
  refine rh0 HB9 [11, 12, 13, 14, 15] [.slice ap m cp, .int .i64 ((m : Nat) : Int), .slice ak m ck, .int .i64 ((m : Nat) : Int), .bool false] ?_ ?_
  · refine stpm ?_
    refine stpx (fun _ _ => ex_lenR slP1 (m := m) rfl) ?_
    refine stpm ?_
    refine stpx (fun _ _ => ex_lenR slR1 (m := m) rfl) ?_
    exact stpx (fun _ _ => ex_neqi rfl rfl false (by simp)) .nil
  intro w10 hb10 HB14
  have A11 := A6.keep hb10.out
  have A12 := A7.keep hb10.out
  have A13 := A8.keep hb10.out
  refine wp_cond_false rfl ?_
  refine wp_skip ?_
  refine th_r ?_
  refine wp_seq ?_
  refine rh0 HB14 [17, 18, 19] [.slice ap m cp, .int .i64 ((m : Nat) : Int), .bool false] ?_ ?_
  · refine stpm ?_
    refine stpx (fun _ _ => ex_lenR slP1 (m := m) rfl) ?_
    exact stpx (fun _ _ => ex_igtr rfl rfl false (by rw [eq_comm, decide_eq_false_iff_not]; omega)) .nil
  intro w15 hb15 HB19
  have A16 := A11.keep hb15.out
  have A17 := A12.keep hb15.out
  have A18 := A13.keep hb15.out
  refine wp_cond_false rfl ?_
  refine wp_skip ?_
  refine th_r ?_
  refine wp_seq ?_
  refine rh0 HB19 [21, 22, 23] [.slice ap m cp, .int .i64 ((m : Nat) : Int), .int .i64 0] ?_ ?_
  · refine stpm ?_
    refine stpx (fun _ _ => ex_lenR slP1 (m := m) rfl) ?_
    exact stpm .nil
  intro w20 hb20 HB24
  have A21 := A16.keep hb20.out
  have A22 := A17.keep hb20.out
  have A23 := A18.keep hb20.out
  refine wp_block ?_
  refine wp_loop_by (m) (fun q_ a_ v_ => ∃ j7 j10 j24 j25 j26 j27 j28 j29 j30 j31 j32 j33 : Value, a_ = ⟨List.toArray ((sv [.v (.func (.func 6) #[] #[]), .v (.func (.func 10) #[] #[]), .v (.func (.func 12) #[] #[]), .v (.func (.func 11) #[] #[]), .i .i64 32]) :: (.slice ap m cp) :: (.slice ak m ck) :: (pz (γ1 0)) :: undef :: undef :: (pz (γ1 1)) :: j7 :: (pz (γ5 0)) :: undef :: j10 :: (.slice ap m cp) :: (.int .i64 ((m : Nat) : Int)) :: (.slice ak m ck) :: (.int .i64 ((m : Nat) : Int)) :: (.bool false) :: undef :: (.slice ap m cp) :: (.int .i64 ((m : Nat) : Int)) :: (.bool false) :: undef :: (.slice ap m cp) :: (.int .i64 ((m : Nat) : Int)) :: (.int .i64 ((q_ : Nat) : Int)) :: j24 :: j25 :: j26 :: j27 :: j28 :: j29 :: j30 :: j31 :: j32 :: j33 :: undef :: undef :: undef :: undef :: undef :: undef :: undef :: undef :: undef :: undef :: undef :: undef :: undef :: []), []⟩ ∧ SB 47 v_ (γ1 0) [.v (.func (.func 6) #[] #[]), .v (.func (.func 10) #[] #[]), .v (.func (.func 12) #[] #[]), .v (.func (.func 11) #[] #[]), .i .i64 32] ∧ SB 28 v_ (γ1 1) [.n 6 0, .n 6 0, .b false] ∧ SB 28 v_ (γ5 0) [.n 6 0, .n 6 0, .b false] ∧ Below w.heap.size w v_) ⟨_, _, _, _, _, _, _, _, _, _, _, _, rfl, A21, A22, A23, HB24⟩ ?_ ?_
  · intro k25 hk25
    rintro _ w25 ⟨i25_7, i25_10, i25_24, i25_25, i25_26, i25_27, i25_28, i25_29, i25_30, i25_31, i25_32, i25_33, rfl, A25_0, A25_1, A25_2, HB25⟩ K25 hK25
    have hq := hk25
    refine rh0 HB25 [24] [.bool true] ?_ ?_
    · exact stpx (fun _ _ => ex_ilss rfl rfl true (by rw [eq_comm, decide_eq_true_eq]; omega)) .nil
    intro w26 hb26 HB30
    have A27 := A25_0.keep hb26.out
    have A28 := A25_1.keep hb26.out
    have A29 := A25_2.keep hb26.out
    refine wp_seq ?_
    refine wp_cond_true rfl ?_
    refine wp_skip ?_
    refine th_r ?_
    refine wp_seq ?_
    refine wp_block ?_
    obtain ⟨g31, o31, ha31, lg31, hr31⟩ := (HP.keep HB30) k25 hq
    skip
    · refine rhc HB30 [(28, 2, 3, [.n 6 0, .n 6 0, .b false], [.n 6 (ax ((S k25).pt)), .n 6 (ay ((S k25).pt)), .b (ai ((S k25).pt))])] [25, 26, 10] (fun γ => [.pointer (some ⟨g31, o31 + 13 * k25, none⟩), sv [.n 6 (ax ((S k25).pt)), .n 6 (ay ((S k25).pt)), .b (ai ((S k25).pt))], pz (γ 0)]) ?_ ?_
      · refine stpx (fun _ _ => ex_idxR slP1 (a := ap) (m := m) (c := cp) (i := k25) rfl ha31 rfl hq) ?_
        refine stpv (fun γ w h => ex_loadR (l := [.n 6 (ax ((S k25).pt)), .n 6 (ay ((S k25).pt)), .b (ai ((S k25).pt))]) flG1 rfl rfl (range_keep lg31 h.out hr31)) ?_
        refine stpn 0 (fun γ w => ex_allocs (l := [.n 6 0, .n 6 0, .b false]) zG1) ?_
        exact stpq 0 0 3 flG1.2 .nil
      intro γ32 w32 hb32 hB32 _ HB37
      have A33 := A27.keep hb32.out
      have A34 := A28.keep hb32.out
      have A35 := A29.keep hb32.out
      have A36 : SB 28 w32 (γ32 0) [.n 6 (ax ((S k25).pt)), .n 6 (ay ((S k25).pt)), .b (ai ((S k25).pt))] := (hB32 0 rfl).2
      refine rh0 HB37 [27, 28, 29, 30, 31] [pz (γ1 0), .func (.func 6) #[] #[], sv [.n 6 (ax ((S k25).pt)), .n 6 (ay ((S k25).pt)), .b (ai ((S k25).pt))], .bool true, .bool false] ?_ ?_
      · refine stpx (fun _ _ => ex_field faSc1_0 rfl) ?_
        refine stpv (fun γ w h => ex_load1 0 (s := .v (.func (.func 6) #[] #[])) (v := .func (.func 6) #[] #[]) sgF1_0 rfl (A33.keep h.out) rfl rfl rfl) ?_
        refine stpv (fun γ w h => ex_loads 0 3 (m := [.n 6 (ax ((S k25).pt)), .n 6 (ay ((S k25).pt)), .b (ai ((S k25).pt))]) flG1 rfl rfl (A36.keep h.out) rfl rfl) ?_
        refine stpk Try.call6 (fun w h => oneRight_p (S k25) _) ?_
        exact stpx (fun _ _ => ex_not (r := true) rfl) .nil
      intro w38 hb38 HB43
      have A39 := A33.keep hb38.out
      have A40 := A34.keep hb38.out
      have A41 := A35.keep hb38.out
      refine wp_cond_false rfl ?_
      refine wp_skip ?_
      refine bk_n ?_
      refine th_r ?_
      refine wp_region_lit ?_
      refine sv1 (.int .i64 ((k25 + 1 : Nat) : Int)) (ex_iadd rfl rfl ((k25 + 1 : Nat) : Int) (cnt_up (by omega))) ?_
      refine svm (.int .i64 ((k25 + 1 : Nat) : Int)) ?_
      refine wpList_nil ?_
      refine th_r ?_
      exact hK25.out _ _ ⟨_, _, _, _, _, _, _, _, _, _, _, _, rfl, A39, A40, A41, HB43⟩
  · rintro _ w44 ⟨i44_7, i44_10, i44_24, i44_25, i44_26, i44_27, i44_28, i44_29, i44_30, i44_31, i44_32, i44_33, rfl, A44_0, A44_1, A44_2, HB44⟩ K44
    refine rh0 HB44 [24] [.bool false] ?_ ?_
    · exact stpx (fun _ _ => ex_ilss rfl rfl false (by rw [eq_comm, decide_eq_false_iff_not]; omega)) .nil
    intro w45 hb45 HB49
    have A46 := A44_0.keep hb45.out
    have A47 := A44_1.keep hb45.out
    refine wp_seq ?_
    refine wp_cond_false rfl ?_
    refine wp_exit (th_e (th_e (bk_e ?_)))
    refine th_r ?_
    refine wp_seq ?_
    refine rh0 HB49 [34, 35, 36, 37, 38] [.slice ap m cp, .int .i64 ((m : Nat) : Int), pq (γ1 0) 4, .int .i64 32, .bool true] ?_ ?_
    · refine stpm ?_
      refine stpx (fun _ _ => ex_lenR slP1 (m := m) rfl) ?_
      refine stpx (fun _ _ => ex_field faSc1_4 rfl) ?_
      refine stpv (fun γ w h => ex_load1 4 (s := .i .i64 32) (v := .int .i64 32) sgInt rfl (A46.keep h.out) rfl rfl rfl) ?_
      exact stpx (fun _ _ => ex_ilss rfl rfl true (by rw [eq_comm, decide_eq_true_eq]; omega)) .nil
    intro w50 hb50 HB54
    have A51 := A46.keep hb50.out
    have A52 := A47.keep hb50.out
    refine wp_cond_true rfl ?_
    refine rhs HB54 le3 4 0 [.n 6 (ax (((sumE1 S A m)).pt)), .n 6 (ay (((sumE1 S A m)).pt)), .b (ai (((sumE1 S A m)).pt))] [39, 40, 41, 42, 7] [sv [.v (.func (.func 6) #[] #[]), .v (.func (.func 10) #[] #[]), .v (.func (.func 12) #[] #[]), .v (.func (.func 11) #[] #[]), .i .i64 32], .slice ap m cp, .slice ak m ck, sv [.n 6 (ax (((sumE1 S A m)).pt)), .n 6 (ay (((sumE1 S A m)).pt)), .b (ai (((sumE1 S A m)).pt))], .int .i64 0] ?_ ?_
    · refine latv (fun γ w h => ex_loads 0 5 (m := [.v (.func (.func 6) #[] #[]), .v (.func (.func 10) #[] #[]), .v (.func (.func 12) #[] #[]), .v (.func (.func 11) #[] #[]), .i .i64 32]) flSc1 rfl rfl (A51.keep h.out) rfl rfl) ?_
      refine latm ?_
      refine latm ?_
      refine latk Try.call35 (fun w h => scOnes1_p m hm S A ap ak cp ck HA _ (HP.keep (below_here HB54 h)) (HK.keep (below_here HB54 h))) ?_
      refine latq 0 3 flG1.2 A52 ?_
      exact lata (fun γ w h => ex_assign _) .nil
    intro w55 w55_ hb55 hs55 HB63
    have A57 := A52.keep hb55.out
    have A61 := hs55.here 0 3 (l' := [.n 6 (ax (((sumE1 S A m)).pt)), .n 6 (ay (((sumE1 S A m)).pt)), .b (ai (((sumE1 S A m)).pt))]) A57 rfl rfl rfl
    exact wprt (ret2 Try.results18 (res_sv rfl A61 flG1 rfl) (res_tmp rfl)) HB63
theorem sumFew1_p (m : Nat) (hm : m ≤ 4096) (S : Nat → E1) (A : Nat → Nat) (ap ak : Option Addr) (cp ck : Nat) (hf : m < 32) (HA : ∀ i, i < m → A i < frB) (w : World) (HP : Row w ap 13 m (fun i => pt1 (S i))) (HK : Row w ak 4 m (fun i => [.n 4 (A i)])) :
    Calls Try.prog 7 #[.slice ap m cp, .slice ak m ck] w (Is (.tuple #[sv [.n 6 (ax (((sumE1 S A m)).pt)), .n 6 (ay (((sumE1 S A m)).pt)), .b (ai (((sumE1 S A m)).pt))], .int .i64 0]) w) := by
  go_enter Try.func7, Try.ntmps7
  refine rh1 (brf w) 28 0 [.n 6 0, .n 6 0, .b false] [4, 5] (fun γ => [pz (γ 0), .int .i64 0]) ?_ ?_
  · refine stpb 0 (fun γ w h => ex_allocs (l := [.n 6 0, .n 6 0, .b false]) zG1) ?_
    exact stpa .nil
  intro γ1 w1 hb1 A2 le2 HB3
  refine rhs HB3 le2 6 0 [.n 6 (ax (((sumE1 S A m)).pt)), .n 6 (ay (((sumE1 S A m)).pt)), .b (ai (((sumE1 S A m)).pt))] [6, 7, 8, 9, 10, 11, 5] [sv [.v (.func (.func 6) #[] #[]), .v (.func (.func 10) #[] #[]), .v (.func (.func 12) #[] #[]), .v (.func (.func 11) #[] #[]), .i .i64 32], .slice ap m cp, .slice ak m ck, .tuple #[sv [.n 6 (ax (((sumE1 S A m)).pt)), .n 6 (ay (((sumE1 S A m)).pt)), .b (ai (((sumE1 S A m)).pt))], .int .i64 0], sv [.n 6 (ax (((sumE1 S A m)).pt)), .n 6 (ay (((sumE1 S A m)).pt)), .b (ai (((sumE1 S A m)).pt))], .int .i64 0, .int .i64 0] ?_ ?_
  · refine latk Try.call17 (fun w h => first1_v _) ?_
    refine latm ?_
    refine latm ?_
    refine latk Try.call18 (fun w h => scFew1_p m hm S A ap ak cp ck hf HA _ (HP.keep (below_here HB3 h)) (HK.keep (below_here HB3 h))) ?_
    refine latv (fun γ w h => ex_extract rfl rfl) ?_
    refine latv (fun γ w h => ex_extract rfl rfl) ?_
    refine latq 0 3 flG1.2 A2 ?_
    exact lata (fun γ w h => ex_assign _) .nil
  intro w4 w4_ hb4 hs4 HB8
  have A5 := A2.keep hb4.out
  have A7 := hs4.here 0 3 (l' := [.n 6 (ax (((sumE1 S A m)).pt)), .n 6 (ay (((sumE1 S A m)).pt)), .b (ai (((sumE1 S A m)).pt))]) A5 rfl rfl rfl
  exact wpr (ret2 Try.results7 (res_sv rfl A7 flG1 rfl) (res_tmp rfl)) HB8
end Go.Proofs.Ytkkmekdhejhapaa

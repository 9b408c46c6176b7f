/- What is proved here: package point, the second curve: bytes that are read: in short, in full. -/
import Derived.Test.YtplbcdafelejbaaGreatDoorPt21
import Derived.Test.YtplbcdafelejbaaGreatDoorPt12
namespace Go.Proofs.YtplbcdafelejbaaGreatDoor
open Go.RowKit Cv
set_option maxRecDepth 20000
set_option maxHeartbeats 4000000
theorem ptread2_1 (gs gx : Nat) (n2 : gs ≠ gx) (l : List UInt8) (hn : 48 ≤ l.length) (a b c : Nat) (e : Int) (hR : CI 68 #[str ((l.take 48))] (.tuple #[nv 6 [c], .int .i64 e])) (w : World) (As : SB 9 w gs [.v (str l)]) (Ax : SB 43 w gx [.n 6 a, .n 6 b]) :
    Calls Tryz.prog 147 #[pz gs, pz gx] w (fun en_ w' => en_ = .returned (.int .i64 e) ∧ (Chg gx gx w w' ∧ SB 43 w' gx [.n 6 a, .n 6 c])) := by
  go_enter Tryz.func147, Tryz.ntmps147
  refine rq0 [2] [.int .i64 0] ?_ ?_
  · exact stpa .nil
  intro w1 hb1
  have A2 := As.keep hb1.out
  have A3 := Ax.keep hb1.out
  have HB5 := (Chg.refl gx gx w).then hb1.out
  refine seq_lit ?_
  refine sv1 (str l) (ex_load1 0 (s := .v (str l)) (v := str l) sgT1 rfl A2 rfl rfl rfl) ?_
  refine sv1 (str ((l.take 48))) (ex_toL (l := l) 48 rfl rfl hn) ?_
  refine sc1 (.tuple #[nv 6 [c], .int .i64 e]) (ex_call (vs := [str ((l.take 48))]) rfl Tryz.call68 rfl) (hR _) ?_
  intro w8 hb8
  have A10 := A3.keep hb8
  have HB12 := HB5.then hb8
  refine sv1 (.tuple #[nv 6 [c], .int .i64 e]) (ex_move _) ?_
  refine sv1 (nv 6 [c]) (ex_extract rfl rfl) ?_
  refine sv1 (.int .i64 e) (ex_extract rfl rfl) ?_
  refine sv1 (pq gx 6) (ex_field faFp2_1 rfl) ?_
  refine ss1 (ex_stores 1 1 (l := [.n 6 a, .n 6 b]) (m := [.n 6 c]) flFp.2 rfl rfl rfl (nv_cells 6 [c]) A10 rfl rfl) ?_
  intro w17 hs17
  have A19 := hs17.here 1 1 (l' := [.n 6 a, .n 6 c]) A10 rfl rfl rfl
  have HB20 := HB12.old hs17 (.inl rfl)
  refine sv1 (.int .i64 e) (ex_assign _) ?_
  refine seq_nil ?_
  refine seq_lit ?_
  refine sv1 (.int .i64 e) (ex_move _) ?_
  refine sv1 (.int .i64 e) (ex_assign _) ?_
  refine seq_nil ?_
  exact wp_ret (bodyPost_ret (ret1 Tryz.results147 (res_tmp rfl)) rfl ⟨rfl, HB20, A19⟩)
theorem ptread2_2 (gs gx : Nat) (n2 : gs ≠ gx) (l : List UInt8) (hn : 48 ≤ l.length) (a b c : Nat) (e : Int) (hR : CI 68 #[str ((l.drop 48))] (.tuple #[nv 6 [c], .int .i64 e])) (w : World) (As : SB 9 w gs [.v (str l)]) (Ax : SB 43 w gx [.n 6 a, .n 6 b]) :
    Calls Tryz.prog 148 #[pz gs, pz gx] w (fun en_ w' => en_ = .returned (.int .i64 e) ∧ (Chg gx gx w w' ∧ SB 43 w' gx [.n 6 c, .n 6 b])) := by
  go_enter Tryz.func148, Tryz.ntmps148
  refine rq0 [2] [.int .i64 0] ?_ ?_
  · exact stpa .nil
  intro w1 hb1
  have A2 := As.keep hb1.out
  have A3 := Ax.keep hb1.out
  have HB5 := (Chg.refl gx gx w).then hb1.out
  refine seq_lit ?_
  refine sv1 (str l) (ex_load1 0 (s := .v (str l)) (v := str l) sgT1 rfl A2 rfl rfl rfl) ?_
  refine sv1 (str ((l.drop 48))) (ex_fromL (l := l) 48 rfl rfl hn) ?_
  refine sc1 (.tuple #[nv 6 [c], .int .i64 e]) (ex_call (vs := [str ((l.drop 48))]) rfl Tryz.call68 rfl) (hR _) ?_
  intro w8 hb8
  have A10 := A3.keep hb8
  have HB12 := HB5.then hb8
  refine sv1 (.tuple #[nv 6 [c], .int .i64 e]) (ex_move _) ?_
  refine sv1 (nv 6 [c]) (ex_extract rfl rfl) ?_
  refine sv1 (.int .i64 e) (ex_extract rfl rfl) ?_
  refine sv1 (pz gx) (ex_field faFp2_0 rfl) ?_
  refine ss1 (ex_stores 0 1 (l := [.n 6 a, .n 6 b]) (m := [.n 6 c]) flFp.2 rfl rfl rfl (nv_cells 6 [c]) A10 rfl rfl) ?_
  intro w17 hs17
  have A19 := hs17.here 0 1 (l' := [.n 6 c, .n 6 b]) A10 rfl rfl rfl
  have HB20 := HB12.old hs17 (.inl rfl)
  refine sv1 (.int .i64 e) (ex_assign _) ?_
  refine seq_nil ?_
  refine seq_lit ?_
  refine sv1 (.int .i64 e) (ex_move _) ?_
  refine sv1 (.int .i64 e) (ex_assign _) ?_
  refine seq_nil ?_
  exact wp_ret (bodyPost_ret (ret1 Tryz.results148 (res_tmp rfl)) rfl ⟨rfl, HB20, A19⟩)
theorem ptread2_b (l : List UInt8) (hn : 48 ≤ l.length) (c d : Nat) (e2 : Int) (hB : CI 68 #[str ((l.take 48))] (.tuple #[nv 6 [c], .int .i64 0])) (hA : CI 68 #[str ((l.drop 48))] (.tuple #[nv 6 [d], .int .i64 e2])) (w : World) :
    Calls Tryz.prog 97 #[str l] w (Is (.tuple #[nv 6 [d, c], .int .i64 e2]) w) := by
  go_enter Tryz.func97, Tryz.ntmps97
  refine rh2 (brf w) 9 0 [.v (str l)] 43 1 [.n 6 0, .n 6 0] [1, 2, 3] (fun γ => [pz (γ 0), pz (γ 1), .int .i64 0]) ?_ ?_
  · refine stpb 0 (fun γ w h => ex_box1 (s := .v (str l)) rfl rfl) ?_
    refine stpb 1 (fun γ w h => ex_allocsn (K := 6) (l := [0, 0]) zFp2) ?_
    exact stpa .nil
  intro γ1 w1 hb1 A2 A3 _ le3 hn1 HB4
  refine rh1 HB4 43 0 [.n 6 0, .n 6 0] [4] (fun γ => [pz (γ 0)]) ?_ ?_
  · exact stpb 0 (fun γ w h => ex_allocsn (K := 6) (l := [0, 0]) zFp2) .nil
  intro γ5 w5 hb5 A8 le8 HB9
  have A6 := A2.keep hb5.out
  have A7 := A3.keep hb5.out
  refine seq_lit ?_
  refine sq_makes (a' := fun g10 => ⟨#[str l, pz (γ1 0), pz (γ1 1), .int .i64 0, pz (γ5 0), undef, undef, .func (.func 126) #[] #[pz g10], undef, undef, undef, undef, undef, undef, undef, undef], []⟩) (val := fun g10 => .func (.func 126) #[] #[pz g10]) (T := 27) (l := [.i .i64 0]) (fun _ => rfl) rfl (ex_call (vs := []) rfl Tryz.call73 rfl) (ptsteps_v _) ?_
  intro g10 w10 N10 le10 hb10
  have A11 := A6.keep hb10
  have A12 := A7.keep hb10
  have A13 := A8.keep hb10
  have HB14 := below_then HB9 hb10
  refine sv1 (.func (.func 126) #[] #[pz g10]) (ex_assign _) ?_
  refine seq_nil ?_
  refine seq_lit ?_
  refine sv1 (.func (.func 126) #[] #[pz g10]) (ex_move _) ?_
  refine sv1 (.func (.func 147) #[] #[pz (γ1 0), pz (γ5 0)]) (ex_closure (cs := [pz (γ1 0), pz (γ5 0)]) rfl) ?_
  refine sk1 (.int .i64 0) (ex_callc (vs := [.func (.func 147) #[] #[pz (γ1 0), pz (γ5 0)]]) (cs := [pz g10]) rfl Tryz.call126 rfl) (pttake_chg g10 147 [pz (γ1 0), pz (γ5 0)] Tryz.call147 0 ((γ5 0)) (Ne.symm (Nat.ne_of_lt (Nat.lt_of_lt_of_le A8.lt le10))) 43 [.n 6 0, .n 6 c] _ [.n 6 0, .n 6 0] A13 (fun w_ hb_ => ptread2_1 ((γ1 0)) ((γ5 0)) (Nat.ne_of_lt (Nat.lt_of_lt_of_le A2.lt le8)) l hn 0 0 c 0 hB w_ (A11.keep hb_) (A13.keep hb_)) N10) ?_
  rintro w18 ⟨hc18, N18_0, N18_1⟩
  have A19 := hc18.kept _ _ _ (Nat.ne_of_lt (Nat.lt_of_lt_of_le A6.lt le10)) (Nat.ne_of_lt (Nat.lt_of_lt_of_le A2.lt le8)) A11
  have A20 := hc18.kept _ _ _ (Nat.ne_of_lt (Nat.lt_of_lt_of_le A7.lt le10)) (Nat.ne_of_lt (Nat.lt_of_lt_of_le A3.lt le8)) A12
  have HB21 := hc18.below HB14 (Nat.le_trans HB9.size le10) (Nat.le_trans HB4.size le8) rfl
  refine seq_nil ?_
  refine seq_lit ?_
  refine sv1 (.func (.func 126) #[] #[pz g10]) (ex_move _) ?_
  refine sv1 (.func (.func 148) #[] #[pz (γ1 0), pz (γ5 0)]) (ex_closure (cs := [pz (γ1 0), pz (γ5 0)]) rfl) ?_
  refine sk1 (.int .i64 e2) (ex_callc (vs := [.func (.func 148) #[] #[pz (γ1 0), pz (γ5 0)]]) (cs := [pz g10]) rfl Tryz.call126 rfl) (pttake_chg g10 148 [pz (γ1 0), pz (γ5 0)] Tryz.call148 e2 ((γ5 0)) (Ne.symm (Nat.ne_of_lt (Nat.lt_of_lt_of_le A8.lt le10))) 43 [.n 6 d, .n 6 c] _ [.n 6 0, .n 6 c] N18_1 (fun w_ hb_ => ptread2_2 ((γ1 0)) ((γ5 0)) (Nat.ne_of_lt (Nat.lt_of_lt_of_le A2.lt le8)) l hn 0 c d e2 hA w_ (A19.keep hb_) (N18_1.keep hb_)) N18_0) ?_
  rintro w24 ⟨hc24, N24_0, N24_1⟩
  have A26 := hc24.kept _ _ _ (Nat.ne_of_lt (Nat.lt_of_lt_of_le A7.lt le10)) (Nat.ne_of_lt (Nat.lt_of_lt_of_le A3.lt le8)) A20
  have HB27 := hc24.below HB21 (Nat.le_trans HB9.size le10) (Nat.le_trans HB4.size le8) rfl
  refine sv1 (.int .i64 e2) (ex_assign _) ?_
  refine seq_nil ?_
  refine rhs HB27 le3 2 0 [.n 6 d, .n 6 c] [14, 15, 3] [nv 6 [d, c], .int .i64 e2, .int .i64 e2] ?_ ?_
  · refine latl 0 2 flFp2 N24_1 ?_
    refine lata (fun γ w h => ex_move _) ?_
    refine lato 0 2 flFp2.2 (nv_cells 6 [d, c]) A26 ?_
    exact lata (fun γ w h => ex_assign _) .nil
  intro w29 w29_ hb29 hs29 HB39
  have A31 := A26.keep hb29.out
  have A36 := hs29.here 0 2 (l' := [.n 6 d, .n 6 c]) A31 rfl rfl rfl
  exact wp_ret (bodyPost_ret (ret2 Tryz.results97 (res_nv (K := 6) (l := [d, c]) rfl A36 flFp2 rfl) (res_tmp rfl)) rfl ⟨rfl, HB39⟩)
theorem pt2ps1_v (gc gs gx : Nat) (n1 : gc ≠ gx) (n2 : gs ≠ gx) (m : List UInt8) (x0 : Nat) (x1 : Nat) (e : Int) (hR : CI 97 #[str m] (.tuple #[nv 6 [x0, x1], .int .i64 e])) (w : World) (Ac : SB 79 w gc cvS2) (As : SB 9 w gs [.v (str m)]) (Ax : SB 43 w gx [.n 6 0, .n 6 0]) :
    Calls Tryz.prog 183 #[pz gc, pz gs, pz gx] w (fun en_ w' => en_ = .returned (.int .i64 e) ∧ (Chg gx gx w w' ∧ SB 43 w' gx [.n 6 x0, .n 6 x1])) := by
  go_enter Tryz.func183, Tryz.ntmps183
  refine rq0 [3] [.int .i64 0] ?_ ?_
  · exact stpa .nil
  intro w1 hb1
  have A2 := Ac.keep hb1.out
  have A3 := As.keep hb1.out
  have A4 := Ax.keep hb1.out
  have HB6 := (Chg.refl gx gx w).then hb1.out
  refine seq_lit ?_
  refine sv1 (pq gc 2) (ex_field faCv2_2 rfl) ?_
  refine sv1 (.func (.func 97) #[] #[]) (ex_load1 2 (s := .v (.func (.func 97) #[] #[])) (v := .func (.func 97) #[] #[]) sgT13 rfl A2 rfl rfl rfl) ?_
  refine sv1 (str m) (ex_load1 0 (s := .v (str m)) (v := str m) sgT1 rfl A3 rfl rfl rfl) ?_
  refine sc1 (.tuple #[nv 6 [x0, x1], .int .i64 e]) (ex_call (vs := [str m]) rfl Tryz.call97 rfl) (hR _) ?_
  intro w10 hb10
  have A13 := A4.keep hb10
  have HB15 := HB6.then hb10
  refine sv1 (.tuple #[nv 6 [x0, x1], .int .i64 e]) (ex_move _) ?_
  refine sv1 (nv 6 [x0, x1]) (ex_extract rfl rfl) ?_
  refine sv1 (.int .i64 e) (ex_extract rfl rfl) ?_
  refine ss1 (ex_stores 0 2 (l := [.n 6 0, .n 6 0]) (m := [.n 6 x0, .n 6 x1]) flFp2.2 rfl rfl rfl (nv_cells 6 [x0, x1]) A13 rfl rfl) ?_
  intro w19 hs19
  have A22 := hs19.here 0 2 (l' := [.n 6 x0, .n 6 x1]) A13 rfl rfl rfl
  have HB23 := HB15.old hs19 (.inl rfl)
  refine sv1 (.int .i64 e) (ex_assign _) ?_
  refine seq_nil ?_
  refine seq_lit ?_
  refine sv1 (.int .i64 e) (ex_move _) ?_
  refine sv1 (.int .i64 e) (ex_assign _) ?_
  refine seq_nil ?_
  exact wp_ret (bodyPost_ret (ret1 Tryz.results183 (res_tmp rfl)) rfl ⟨rfl, HB23, A22⟩)
theorem pt2ps2_v (gc gx gy : Nat) (n1 : gc ≠ gy) (n2 : gx ≠ gy) (x0 : Nat) (x1 : Nat) (y0 : Nat) (y1 : Nat) (e2 : Int) (hV : CI 98 #[nv 6 [x0, x1]] (.tuple #[nv 6 [y0, y1], .int .i64 e2])) (w : World) (Ac : SB 79 w gc cvS2) (Ax : SB 43 w gx [.n 6 x0, .n 6 x1]) (Ay : SB 43 w gy [.n 6 0, .n 6 0]) :
    Calls Tryz.prog 184 #[pz gc, pz gx, pz gy] w (fun en_ w' => en_ = .returned (.int .i64 e2) ∧ (Chg gy gy w w' ∧ SB 43 w' gy [.n 6 y0, .n 6 y1])) := by
  go_enter Tryz.func184, Tryz.ntmps184
  refine rq0 [3] [.int .i64 0] ?_ ?_
  · exact stpa .nil
  intro w1 hb1
  have A2 := Ac.keep hb1.out
  have A3 := Ax.keep hb1.out
  have A4 := Ay.keep hb1.out
  have HB6 := (Chg.refl gy gy w).then hb1.out
  refine seq_lit ?_
  refine sv1 (pq gc 5) (ex_field faCv2_5 rfl) ?_
  refine sv1 (.func (.func 98) #[] #[]) (ex_load1 5 (s := .v (.func (.func 98) #[] #[])) (v := .func (.func 98) #[] #[]) sgT16 rfl A2 rfl rfl rfl) ?_
  refine sv1 (nv 6 [x0, x1]) (ex_loadsn (K := 6) 0 2 (m := [x0, x1]) flFp2 rfl rfl A3 rfl rfl) ?_
  refine sc1 (.tuple #[nv 6 [y0, y1], .int .i64 e2]) (ex_call (vs := [nv 6 [x0, x1]]) rfl Tryz.call98 rfl) (hV _) ?_
  intro w10 hb10
  have A13 := A4.keep hb10
  have HB15 := HB6.then hb10
  refine sv1 (.tuple #[nv 6 [y0, y1], .int .i64 e2]) (ex_move _) ?_
  refine sv1 (nv 6 [y0, y1]) (ex_extract rfl rfl) ?_
  refine sv1 (.int .i64 e2) (ex_extract rfl rfl) ?_
  refine ss1 (ex_stores 0 2 (l := [.n 6 0, .n 6 0]) (m := [.n 6 y0, .n 6 y1]) flFp2.2 rfl rfl rfl (nv_cells 6 [y0, y1]) A13 rfl rfl) ?_
  intro w19 hs19
  have A22 := hs19.here 0 2 (l' := [.n 6 y0, .n 6 y1]) A13 rfl rfl rfl
  have HB23 := HB15.old hs19 (.inl rfl)
  refine sv1 (.int .i64 e2) (ex_assign _) ?_
  refine seq_nil ?_
  refine seq_lit ?_
  refine sv1 (.int .i64 e2) (ex_move _) ?_
  refine sv1 (.int .i64 e2) (ex_assign _) ?_
  refine seq_nil ?_
  exact wp_ret (bodyPost_ret (ret1 Tryz.results184 (res_tmp rfl)) rfl ⟨rfl, HB23, A22⟩)
theorem pt2short_bf (m : List UInt8) (x0 : Nat) (x1 : Nat) (y0 : Nat) (y1 : Nat) (e2 : Int) (hR : CI 97 #[str m] (.tuple #[nv 6 [x0, x1], .int .i64 0])) (hV : CI 98 #[nv 6 [x0, x1]] (.tuple #[nv 6 [y0, y1], .int .i64 e2])) (w : World) :
    Calls Tryz.prog 153 #[sv cvS2, str m, .bool false] w (Is (.tuple #[sv [.n 6 x0, .n 6 x1, .n 6 y0, .n 6 y1, .b false], .int .i64 e2]) w) := by
  go_enter Tryz.func153, Tryz.ntmps153
  refine rh3 (brf w) (79) 0 cvS2 9 1 [.v (str m)] 45 2 [.n 6 0, .n 6 0, .n 6 0, .n 6 0, .b false] [3, 4, 6, 7] (fun γ => [pz (γ 0), pz (γ 1), pz (γ 2), .int .i64 0]) ?_ ?_
  · refine stpb 0 (fun γ w h => ex_boxs (l := cvS2) rfl) ?_
    refine stpb 1 (fun γ w h => ex_box1 (s := .v (str m)) rfl rfl) ?_
    refine stpb 2 (fun γ w h => ex_allocs (l := [.n 6 0, .n 6 0, .n 6 0, .n 6 0, .b false]) zG2) ?_
    exact stpa .nil
  intro γ1 w1 hb1 A2 A3 A4 _ _ le4 hn1 HB5
  refine rh2 HB5 43 0 [.n 6 0, .n 6 0] 43 1 [.n 6 0, .n 6 0] [8, 9] (fun γ => [pz (γ 0), pz (γ 1)]) ?_ ?_
  · refine stpb 0 (fun γ w h => ex_allocsn (K := 6) (l := [0, 0]) zFp2) ?_
    exact stpb 1 (fun γ w h => ex_allocsn (K := 6) (l := [0, 0]) zFp2) .nil
  intro γ6 w6 hb6 A10 A11 le10 le11 hn6 HB12
  have A7 := A2.keep hb6.out
  have A8 := A3.keep hb6.out
  have A9 := A4.keep hb6.out
  refine seq_lit ?_
  refine sq_makes (a' := fun g13 => ⟨#[sv cvS2, str m, .bool false, pz (γ1 0), pz (γ1 1), undef, pz (γ1 2), .int .i64 0, pz (γ6 0), pz (γ6 1), undef, undef, .func (.func 126) #[] #[pz g13], undef, undef, undef, undef, undef, undef, undef, undef, undef, undef, undef, undef, undef, undef, undef, undef, undef], []⟩) (val := fun g13 => .func (.func 126) #[] #[pz g13]) (T := 27) (l := [.i .i64 0]) (fun _ => rfl) rfl (ex_call (vs := []) rfl Tryz.call73 rfl) (ptsteps_v _) ?_
  intro g13 w13 N13 le13 hb13
  have A14 := A7.keep hb13
  have A15 := A8.keep hb13
  have A16 := A9.keep hb13
  have A17 := A10.keep hb13
  have A18 := A11.keep hb13
  have HB19 := below_then HB12 hb13
  refine sv1 (.func (.func 126) #[] #[pz g13]) (ex_assign _) ?_
  refine seq_nil ?_
  refine seq_lit ?_
  refine sv1 (.func (.func 126) #[] #[pz g13]) (ex_move _) ?_
  refine sv1 (.func (.func 183) #[] #[pz (γ1 0), pz (γ1 1), pz (γ6 0)]) (ex_closure (cs := [pz (γ1 0), pz (γ1 1), pz (γ6 0)]) rfl) ?_
  refine sk1 (.int .i64 0) (ex_callc (vs := [.func (.func 183) #[] #[pz (γ1 0), pz (γ1 1), pz (γ6 0)]]) (cs := [pz g13]) rfl Tryz.call126 rfl) (pttake_chg g13 183 [pz (γ1 0), pz (γ1 1), pz (γ6 0)] Tryz.call183 0 ((γ6 0)) (Ne.symm (Nat.ne_of_lt (Nat.lt_of_lt_of_le A10.lt le13))) 43 [.n 6 x0, .n 6 x1] _ [.n 6 0, .n 6 0] A17 (fun w_ hb_ => pt2ps1_v ((γ1 0)) ((γ1 1)) ((γ6 0)) (Nat.ne_of_lt (Nat.lt_of_lt_of_le A2.lt le10)) (Nat.ne_of_lt (Nat.lt_of_lt_of_le A3.lt le10)) m x0 x1 0 hR w_ (A14.keep hb_) (A15.keep hb_) (A17.keep hb_)) N13) ?_
  rintro w23 ⟨hc23, N23_0, N23_1⟩
  have A24 := hc23.kept _ _ _ (Nat.ne_of_lt (Nat.lt_of_lt_of_le A7.lt le13)) (Nat.ne_of_lt (Nat.lt_of_lt_of_le A2.lt le10)) A14
  have A26 := hc23.kept _ _ _ (Nat.ne_of_lt (Nat.lt_of_lt_of_le A9.lt le13)) (Nat.ne_of_lt (Nat.lt_of_lt_of_le A4.lt le10)) A16
  have A27 := hc23.kept _ _ _ (Nat.ne_of_lt (Nat.lt_of_lt_of_le A11.lt le13)) (Ne.symm (hn6 0 1 (by decide) (by decide) (by decide))) A18
  have HB28 := hc23.below HB19 (Nat.le_trans HB12.size le13) (Nat.le_trans HB5.size le10) rfl
  refine seq_nil ?_
  refine seq_lit ?_
  refine sv1 (.func (.func 126) #[] #[pz g13]) (ex_move _) ?_
  refine sv1 (.func (.func 184) #[] #[pz (γ1 0), pz (γ6 0), pz (γ6 1)]) (ex_closure (cs := [pz (γ1 0), pz (γ6 0), pz (γ6 1)]) rfl) ?_
  refine sk1 (.int .i64 e2) (ex_callc (vs := [.func (.func 184) #[] #[pz (γ1 0), pz (γ6 0), pz (γ6 1)]]) (cs := [pz g13]) rfl Tryz.call126 rfl) (pttake_chg g13 184 [pz (γ1 0), pz (γ6 0), pz (γ6 1)] Tryz.call184 e2 ((γ6 1)) (Ne.symm (Nat.ne_of_lt (Nat.lt_of_lt_of_le A11.lt le13))) 43 [.n 6 y0, .n 6 y1] _ [.n 6 0, .n 6 0] A27 (fun w_ hb_ => pt2ps2_v ((γ1 0)) ((γ6 0)) ((γ6 1)) (Nat.ne_of_lt (Nat.lt_of_lt_of_le A2.lt le11)) (hn6 0 1 (by decide) (by decide) (by decide)) x0 x1 y0 y1 e2 hV w_ (A24.keep hb_) (N23_1.keep hb_) (A27.keep hb_)) N23_0) ?_
  rintro w31 ⟨hc31, N31_0, N31_1⟩
  have A32 := hc31.kept _ _ _ (Nat.ne_of_lt (Nat.lt_of_lt_of_le A7.lt le13)) (Nat.ne_of_lt (Nat.lt_of_lt_of_le A2.lt le11)) A24
  have A34 := hc31.kept _ _ _ (Nat.ne_of_lt (Nat.lt_of_lt_of_le A9.lt le13)) (Nat.ne_of_lt (Nat.lt_of_lt_of_le A4.lt le11)) A26
  have A35 := hc31.kept _ _ _ (Nat.ne_of_lt (Nat.lt_of_lt_of_le A10.lt le13)) (hn6 0 1 (by decide) (by decide) (by decide)) N23_1
  have HB36 := hc31.below HB28 (Nat.le_trans HB12.size le13) (Nat.le_trans HB5.size le11) rfl
  refine sv1 (.int .i64 e2) (ex_assign _) ?_
  refine seq_nil ?_
  refine wp_seq ?_
  refine rh0 HB36 [19] [.bool false] ?_ ?_
  · exact stpm .nil
  intro w38 hb38 HB45
  have A39 := A32.keep hb38.out
  have A41 := A34.keep hb38.out
  have A42 := A35.keep hb38.out
  have A43 := N31_1.keep hb38.out
  refine wp_cond_false rfl ?_
  refine wp_skip ?_
  refine th_r ?_
  refine seq_lit ?_
  refine sv1 (pq (γ1 0) 7) (ex_field faCv2_7 rfl) ?_
  refine sv1 (.func (.func 100) #[] #[]) (ex_load1 7 (s := .v (.func (.func 100) #[] #[])) (v := .func (.func 100) #[] #[]) sgT18 rfl A39 rfl rfl rfl) ?_
  refine sv1 (nv 6 [x0, x1]) (ex_loadsn (K := 6) 0 2 (m := [x0, x1]) flFp2 rfl rfl A42 rfl rfl) ?_
  refine sv1 (nv 6 [y0, y1]) (ex_loadsn (K := 6) 0 2 (m := [y0, y1]) flFp2 rfl rfl A43 rfl rfl) ?_
  refine sck HB45 Tryz.call100 (pt2made_v x0 x1 y0 y1 _) ?_
  intro w50 hb50 HB57
  have A53 := A41.keep hb50
  refine sv1 (.int .i64 e2) (ex_move _) ?_
  refine ss1 (ex_stores 0 5 (l := [.n 6 0, .n 6 0, .n 6 0, .n 6 0, .b false]) (m := [.n 6 x0, .n 6 x1, .n 6 y0, .n 6 y1, .b false]) flG2.2 rfl rfl rfl rfl A53 rfl rfl) ?_
  intro w59 hs59
  have A62 := hs59.here 0 5 (l' := [.n 6 x0, .n 6 x1, .n 6 y0, .n 6 y1, .b false]) A53 rfl rfl rfl
  have HB66 := hs59.below HB57 (Nat.le_trans (Nat.le_refl _) le4)
  refine sv1 (.int .i64 e2) (ex_assign _) ?_
  refine seq_nil ?_
  exact wp_ret (bodyPost_ret (ret2 Tryz.results153 (res_sv rfl A62 flG2 rfl) (res_tmp rfl)) rfl ⟨rfl, HB66⟩)
theorem pt2short_bt (m : List UInt8) (x0 : Nat) (x1 : Nat) (y0 : Nat) (y1 : Nat) (e2 : Int) (hR : CI 97 #[str m] (.tuple #[nv 6 [x0, x1], .int .i64 0])) (hV : CI 98 #[nv 6 [x0, x1]] (.tuple #[nv 6 [y0, y1], .int .i64 e2])) (z0 : Nat) (z1 : Nat) (hN : CI 59 #[nv 6 [y0, y1]] (nv 6 [z0, z1])) (w : World) :
    Calls Tryz.prog 153 #[sv cvS2, str m, .bool true] w (Is (.tuple #[sv [.n 6 x0, .n 6 x1, .n 6 z0, .n 6 z1, .b false], .int .i64 e2]) w) := by
  go_enter Tryz.func153, Tryz.ntmps153
  refine rh3 (brf w) (79) 0 cvS2 9 1 [.v (str m)] 45 2 [.n 6 0, .n 6 0, .n 6 0, .n 6 0, .b false] [3, 4, 6, 7] (fun γ => [pz (γ 0), pz (γ 1), pz (γ 2), .int .i64 0]) ?_ ?_
  · refine stpb 0 (fun γ w h => ex_boxs (l := cvS2) rfl) ?_
    refine stpb 1 (fun γ w h => ex_box1 (s := .v (str m)) rfl rfl) ?_
    refine stpb 2 (fun γ w h => ex_allocs (l := [.n 6 0, .n 6 0, .n 6 0, .n 6 0, .b false]) zG2) ?_
    exact stpa .nil
  intro γ1 w1 hb1 A2 A3 A4 _ _ le4 hn1 HB5
  refine rh2 HB5 43 0 [.n 6 0, .n 6 0] 43 1 [.n 6 0, .n 6 0] [8, 9] (fun γ => [pz (γ 0), pz (γ 1)]) ?_ ?_
  · refine stpb 0 (fun γ w h => ex_allocsn (K := 6) (l := [0, 0]) zFp2) ?_
    exact stpb 1 (fun γ w h => ex_allocsn (K := 6) (l := [0, 0]) zFp2) .nil
  intro γ6 w6 hb6 A10 A11 le10 le11 hn6 HB12
  have A7 := A2.keep hb6.out
  have A8 := A3.keep hb6.out
  have A9 := A4.keep hb6.out
  refine seq_lit ?_
  refine sq_makes (a' := fun g13 => ⟨#[sv cvS2, str m, .bool true, pz (γ1 0), pz (γ1 1), undef, pz (γ1 2), .int .i64 0, pz (γ6 0), pz (γ6 1), undef, undef, .func (.func 126) #[] #[pz g13], undef, undef, undef, undef, undef, undef, undef, undef, undef, undef, undef, undef, undef, undef, undef, undef, undef], []⟩) (val := fun g13 => .func (.func 126) #[] #[pz g13]) (T := 27) (l := [.i .i64 0]) (fun _ => rfl) rfl (ex_call (vs := []) rfl Tryz.call73 rfl) (ptsteps_v _) ?_
  intro g13 w13 N13 le13 hb13
  have A14 := A7.keep hb13
  have A15 := A8.keep hb13
  have A16 := A9.keep hb13
  have A17 := A10.keep hb13
  have A18 := A11.keep hb13
  have HB19 := below_then HB12 hb13
  refine sv1 (.func (.func 126) #[] #[pz g13]) (ex_assign _) ?_
  refine seq_nil ?_
  refine seq_lit ?_
  refine sv1 (.func (.func 126) #[] #[pz g13]) (ex_move _) ?_
  refine sv1 (.func (.func 183) #[] #[pz (γ1 0), pz (γ1 1), pz (γ6 0)]) (ex_closure (cs := [pz (γ1 0), pz (γ1 1), pz (γ6 0)]) rfl) ?_
  refine sk1 (.int .i64 0) (ex_callc (vs := [.func (.func 183) #[] #[pz (γ1 0), pz (γ1 1), pz (γ6 0)]]) (cs := [pz g13]) rfl Tryz.call126 rfl) (pttake_chg g13 183 [pz (γ1 0), pz (γ1 1), pz (γ6 0)] Tryz.call183 0 ((γ6 0)) (Ne.symm (Nat.ne_of_lt (Nat.lt_of_lt_of_le A10.lt le13))) 43 [.n 6 x0, .n 6 x1] _ [.n 6 0, .n 6 0] A17 (fun w_ hb_ => pt2ps1_v ((γ1 0)) ((γ1 1)) ((γ6 0)) (Nat.ne_of_lt (Nat.lt_of_lt_of_le A2.lt le10)) (Nat.ne_of_lt (Nat.lt_of_lt_of_le A3.lt le10)) m x0 x1 0 hR w_ (A14.keep hb_) (A15.keep hb_) (A17.keep hb_)) N13) ?_
  rintro w23 ⟨hc23, N23_0, N23_1⟩
  have A24 := hc23.kept _ _ _ (Nat.ne_of_lt (Nat.lt_of_lt_of_le A7.lt le13)) (Nat.ne_of_lt (Nat.lt_of_lt_of_le A2.lt le10)) A14
  have A26 := hc23.kept _ _ _ (Nat.ne_of_lt (Nat.lt_of_lt_of_le A9.lt le13)) (Nat.ne_of_lt (Nat.lt_of_lt_of_le A4.lt le10)) A16
  have A27 := hc23.kept _ _ _ (Nat.ne_of_lt (Nat.lt_of_lt_of_le A11.lt le13)) (Ne.symm (hn6 0 1 (by decide) (by decide) (by decide))) A18
  have HB28 := hc23.below HB19 (Nat.le_trans HB12.size le13) (Nat.le_trans HB5.size le10) rfl
  refine seq_nil ?_
  refine seq_lit ?_
  refine sv1 (.func (.func 126) #[] #[pz g13]) (ex_move _) ?_
  refine sv1 (.func (.func 184) #[] #[pz (γ1 0), pz (γ6 0), pz (γ6 1)]) (ex_closure (cs := [pz (γ1 0), pz (γ6 0), pz (γ6 1)]) rfl) ?_
  refine sk1 (.int .i64 e2) (ex_callc (vs := [.func (.func 184) #[] #[pz (γ1 0), pz (γ6 0), pz (γ6 1)]]) (cs := [pz g13]) rfl Tryz.call126 rfl) (pttake_chg g13 184 [pz (γ1 0), pz (γ6 0), pz (γ6 1)] Tryz.call184 e2 ((γ6 1)) (Ne.symm (Nat.ne_of_lt (Nat.lt_of_lt_of_le A11.lt le13))) 43 [.n 6 y0, .n 6 y1] _ [.n 6 0, .n 6 0] A27 (fun w_ hb_ => pt2ps2_v ((γ1 0)) ((γ6 0)) ((γ6 1)) (Nat.ne_of_lt (Nat.lt_of_lt_of_le A2.lt le11)) (hn6 0 1 (by decide) (by decide) (by decide)) x0 x1 y0 y1 e2 hV w_ (A24.keep hb_) (N23_1.keep hb_) (A27.keep hb_)) N23_0) ?_
  rintro w31 ⟨hc31, N31_0, N31_1⟩
  have A32 := hc31.kept _ _ _ (Nat.ne_of_lt (Nat.lt_of_lt_of_le A7.lt le13)) (Nat.ne_of_lt (Nat.lt_of_lt_of_le A2.lt le11)) A24
  have A34 := hc31.kept _ _ _ (Nat.ne_of_lt (Nat.lt_of_lt_of_le A9.lt le13)) (Nat.ne_of_lt (Nat.lt_of_lt_of_le A4.lt le11)) A26
  have A35 := hc31.kept _ _ _ (Nat.ne_of_lt (Nat.lt_of_lt_of_le A10.lt le13)) (hn6 0 1 (by decide) (by decide) (by decide)) N23_1
  have HB36 := hc31.below HB28 (Nat.le_trans HB12.size le13) (Nat.le_trans HB5.size le11) rfl
  refine sv1 (.int .i64 e2) (ex_assign _) ?_
  refine seq_nil ?_
  refine wp_seq ?_
  refine rh0 HB36 [19] [.bool true] ?_ ?_
  · exact stpm .nil
  intro w38 hb38 HB45
  have A39 := A32.keep hb38.out
  have A41 := A34.keep hb38.out
  have A42 := A35.keep hb38.out
  have A43 := N31_1.keep hb38.out
  refine wp_cond_true rfl ?_
  refine wp_region_lit ?_
  refine sv1 (pq (γ1 0) 4) (ex_field faCv2_4 rfl) ?_
  refine sv1 (.func (.func 59) #[] #[]) (ex_load1 4 (s := .v (.func (.func 59) #[] #[])) (v := .func (.func 59) #[] #[]) sgT15 rfl A39 rfl rfl rfl) ?_
  refine sv1 (nv 6 [y0, y1]) (ex_loadsn (K := 6) 0 2 (m := [y0, y1]) flFp2 rfl rfl A43 rfl rfl) ?_
  refine sck HB45 Tryz.call59 (hN _) ?_
  intro w49 hb49 HB56
  have A50 := A39.keep hb49
  have A52 := A41.keep hb49
  have A53 := A42.keep hb49
  have A54 := A43.keep hb49
  refine ss1 (ex_stores 0 2 (l := [.n 6 y0, .n 6 y1]) (m := [.n 6 z0, .n 6 z1]) flFp2.2 rfl rfl rfl (nv_cells 6 [z0, z1]) A54 rfl rfl) ?_
  intro w57 hs57
  have A58 := hs57.other (Nat.ne_of_lt (Nat.lt_of_lt_of_le A2.lt le11)) A50
  have A60 := hs57.other (Nat.ne_of_lt (Nat.lt_of_lt_of_le A4.lt le11)) A52
  have A61 := hs57.other (hn6 0 1 (by decide) (by decide) (by decide)) A53
  have A62 := hs57.here 0 2 (l' := [.n 6 z0, .n 6 z1]) A54 rfl rfl rfl
  have HB64 := hs57.below HB56 (Nat.le_trans HB5.size le11)
  refine wpList_nil ?_
  refine th_r ?_
  refine seq_lit ?_
  refine sv1 (pq (γ1 0) 7) (ex_field faCv2_7 rfl) ?_
  refine sv1 (.func (.func 100) #[] #[]) (ex_load1 7 (s := .v (.func (.func 100) #[] #[])) (v := .func (.func 100) #[] #[]) sgT18 rfl A58 rfl rfl rfl) ?_
  refine sv1 (nv 6 [x0, x1]) (ex_loadsn (K := 6) 0 2 (m := [x0, x1]) flFp2 rfl rfl A61 rfl rfl) ?_
  refine sv1 (nv 6 [z0, z1]) (ex_loadsn (K := 6) 0 2 (m := [z0, z1]) flFp2 rfl rfl A62 rfl rfl) ?_
  refine sck HB64 Tryz.call100 (pt2made_v x0 x1 z0 z1 _) ?_
  intro w69 hb69 HB76
  have A72 := A60.keep hb69
  refine sv1 (.int .i64 e2) (ex_move _) ?_
  refine ss1 (ex_stores 0 5 (l := [.n 6 0, .n 6 0, .n 6 0, .n 6 0, .b false]) (m := [.n 6 x0, .n 6 x1, .n 6 z0, .n 6 z1, .b false]) flG2.2 rfl rfl rfl rfl A72 rfl rfl) ?_
  intro w78 hs78
  have A81 := hs78.here 0 5 (l' := [.n 6 x0, .n 6 x1, .n 6 z0, .n 6 z1, .b false]) A72 rfl rfl rfl
  have HB85 := hs78.below HB76 (Nat.le_trans (Nat.le_refl _) le4)
  refine sv1 (.int .i64 e2) (ex_assign _) ?_
  refine seq_nil ?_
  exact wp_ret (bodyPost_ret (ret2 Tryz.results153 (res_sv rfl A81 flG2 rfl) (res_tmp rfl)) rfl ⟨rfl, HB85⟩)
theorem pt2pf1_v (gc gs gx : Nat) (n1 : gc ≠ gx) (n2 : gs ≠ gx) (m : List UInt8) (hn : 96 ≤ m.length) (x0 : Nat) (x1 : Nat) (e : Int) (hR : CI 97 #[str ((m.take 96))] (.tuple #[nv 6 [x0, x1], .int .i64 e])) (w : World) (Ac : SB 79 w gc cvS2) (As : SB 9 w gs [.v (str m)]) (Ax : SB 43 w gx [.n 6 0, .n 6 0]) :
    Calls Tryz.prog 185 #[pz gc, pz gs, pz gx] w (fun en_ w' => en_ = .returned (.int .i64 e) ∧ (Chg gx gx w w' ∧ SB 43 w' gx [.n 6 x0, .n 6 x1])) := by
  go_enter Tryz.func185, Tryz.ntmps185
  refine rq0 [3] [.int .i64 0] ?_ ?_
  · exact stpa .nil
  intro w1 hb1
  have A2 := Ac.keep hb1.out
  have A3 := As.keep hb1.out
  have A4 := Ax.keep hb1.out
  have HB6 := (Chg.refl gx gx w).then hb1.out
  refine rqs 10 (gx) 0 (segs [.n 6 x0, .n 6 x1]) [5, 6, 7, 8, 9, 10, 11, 4, 12, 13, 3] [pq gc 2, .func (.func 97) #[] #[], str m, pz gc, .int .i64 96, str ((m.take 96)), .tuple #[nv 6 [x0, x1], .int .i64 e], .tuple #[nv 6 [x0, x1], .int .i64 e], nv 6 [x0, x1], .int .i64 e, .int .i64 e] ?_ ?_
  · refine latv (fun γ w h => ex_field faCv2_2 rfl) ?_
    refine latv (fun γ w h => ex_load1 2 (s := .v (.func (.func 97) #[] #[])) (v := .func (.func 97) #[] #[]) sgT13 rfl (A2.keep h.out) rfl rfl rfl) ?_
    refine latv (fun γ w h => ex_load1 0 (s := .v (str m)) (v := str m) sgT1 rfl (A3.keep h.out) rfl rfl rfl) ?_
    refine latv (fun γ w h => ex_field faCv2_0 rfl) ?_
    refine latv (fun γ w h => ex_load1 0 (s := .i .i64 96) (v := .int .i64 96) sgInt rfl (A2.keep h.out) rfl rfl rfl) ?_
    refine latv (fun γ w h => ex_toL (l := m) 96 rfl rfl hn) ?_
    refine latk Tryz.call97 (fun w h => hR _) ?_
    refine latm ?_
    refine latv (fun γ w h => ex_extract rfl rfl) ?_
    refine lata (fun γ w h => ex_extract (vs := [nv 6 [x0, x1], .int .i64 e]) rfl rfl) ?_
    refine lato 0 2 flFp2.2 (nv_cells 6 [x0, x1]) A4 ?_
    exact lata (fun γ w h => ex_assign _) .nil
  intro w7 w7_ hb7 hs7
  have A10 := A4.keep hb7.out
  have HB12 := HB6.then hb7.out
  have A15 := hs7.here 0 2 (l' := [.n 6 x0, .n 6 x1]) A10 rfl rfl rfl
  have HB16 := HB12.old hs7 (.inl rfl)
  refine seq_lit ?_
  refine sv1 (.int .i64 e) (ex_move _) ?_
  refine sv1 (.int .i64 e) (ex_assign _) ?_
  refine seq_nil ?_
  exact wp_ret (bodyPost_ret (ret1 Tryz.results185 (res_tmp rfl)) rfl ⟨rfl, HB16, A15⟩)
theorem pt2pf2_v (gc gs gx : Nat) (n1 : gc ≠ gx) (n2 : gs ≠ gx) (m : List UInt8) (hn : 96 ≤ m.length) (y0 : Nat) (y1 : Nat) (e : Int) (hR : CI 97 #[str ((m.drop 96))] (.tuple #[nv 6 [y0, y1], .int .i64 e])) (w : World) (Ac : SB 79 w gc cvS2) (As : SB 9 w gs [.v (str m)]) (Ax : SB 43 w gx [.n 6 0, .n 6 0]) :
    Calls Tryz.prog 186 #[pz gc, pz gs, pz gx] w (fun en_ w' => en_ = .returned (.int .i64 e) ∧ (Chg gx gx w w' ∧ SB 43 w' gx [.n 6 y0, .n 6 y1])) := by
  go_enter Tryz.func186, Tryz.ntmps186
  refine rq0 [3] [.int .i64 0] ?_ ?_
  · exact stpa .nil
  intro w1 hb1
  have A2 := Ac.keep hb1.out
  have A3 := As.keep hb1.out
  have A4 := Ax.keep hb1.out
  have HB6 := (Chg.refl gx gx w).then hb1.out
  refine rqs 10 (gx) 0 (segs [.n 6 y0, .n 6 y1]) [5, 6, 7, 8, 9, 10, 11, 4, 12, 13, 3] [pq gc 2, .func (.func 97) #[] #[], str m, pz gc, .int .i64 96, str ((m.drop 96)), .tuple #[nv 6 [y0, y1], .int .i64 e], .tuple #[nv 6 [y0, y1], .int .i64 e], nv 6 [y0, y1], .int .i64 e, .int .i64 e] ?_ ?_
  · refine latv (fun γ w h => ex_field faCv2_2 rfl) ?_
    refine latv (fun γ w h => ex_load1 2 (s := .v (.func (.func 97) #[] #[])) (v := .func (.func 97) #[] #[]) sgT13 rfl (A2.keep h.out) rfl rfl rfl) ?_
    refine latv (fun γ w h => ex_load1 0 (s := .v (str m)) (v := str m) sgT1 rfl (A3.keep h.out) rfl rfl rfl) ?_
    refine latv (fun γ w h => ex_field faCv2_0 rfl) ?_
    refine latv (fun γ w h => ex_load1 0 (s := .i .i64 96) (v := .int .i64 96) sgInt rfl (A2.keep h.out) rfl rfl rfl) ?_
    refine latv (fun γ w h => ex_fromL (l := m) 96 rfl rfl hn) ?_
    refine latk Tryz.call97 (fun w h => hR _) ?_
    refine latm ?_
    refine latv (fun γ w h => ex_extract rfl rfl) ?_
    refine lata (fun γ w h => ex_extract (vs := [nv 6 [y0, y1], .int .i64 e]) rfl rfl) ?_
    refine lato 0 2 flFp2.2 (nv_cells 6 [y0, y1]) A4 ?_
    exact lata (fun γ w h => ex_assign _) .nil
  intro w7 w7_ hb7 hs7
  have A10 := A4.keep hb7.out
  have HB12 := HB6.then hb7.out
  have A15 := hs7.here 0 2 (l' := [.n 6 y0, .n 6 y1]) A10 rfl rfl rfl
  have HB16 := HB12.old hs7 (.inl rfl)
  refine seq_lit ?_
  refine sv1 (.int .i64 e) (ex_move _) ?_
  refine sv1 (.int .i64 e) (ex_assign _) ?_
  refine seq_nil ?_
  exact wp_ret (bodyPost_ret (ret1 Tryz.results186 (res_tmp rfl)) rfl ⟨rfl, HB16, A15⟩)
theorem pt2full_b (m : List UInt8) (hn : 96 ≤ m.length) (x0 : Nat) (x1 : Nat) (y0 : Nat) (y1 : Nat) (e2 : Int) (hR : CI 97 #[str ((m.take 96))] (.tuple #[nv 6 [x0, x1], .int .i64 0])) (hS : CI 97 #[str ((m.drop 96))] (.tuple #[nv 6 [y0, y1], .int .i64 e2])) (w : World) :
    Calls Tryz.prog 154 #[sv cvS2, str m] w (Is (.tuple #[sv [.n 6 x0, .n 6 x1, .n 6 y0, .n 6 y1, .b false], .int .i64 e2]) w) := by
  go_enter Tryz.func154, Tryz.ntmps154
  refine rh3 (brf w) (79) 0 cvS2 9 1 [.v (str m)] 45 2 [.n 6 0, .n 6 0, .n 6 0, .n 6 0, .b false] [2, 3, 4, 5] (fun γ => [pz (γ 0), pz (γ 1), pz (γ 2), .int .i64 0]) ?_ ?_
  · refine stpb 0 (fun γ w h => ex_boxs (l := cvS2) rfl) ?_
    refine stpb 1 (fun γ w h => ex_box1 (s := .v (str m)) rfl rfl) ?_
    refine stpb 2 (fun γ w h => ex_allocs (l := [.n 6 0, .n 6 0, .n 6 0, .n 6 0, .b false]) zG2) ?_
    exact stpa .nil
  intro γ1 w1 hb1 A2 A3 A4 _ _ le4 hn1 HB5
  refine rh2 HB5 43 0 [.n 6 0, .n 6 0] 43 1 [.n 6 0, .n 6 0] [6, 7] (fun γ => [pz (γ 0), pz (γ 1)]) ?_ ?_
  · refine stpb 0 (fun γ w h => ex_allocsn (K := 6) (l := [0, 0]) zFp2) ?_
    exact stpb 1 (fun γ w h => ex_allocsn (K := 6) (l := [0, 0]) zFp2) .nil
  intro γ6 w6 hb6 A10 A11 le10 le11 hn6 HB12
  have A7 := A2.keep hb6.out
  have A8 := A3.keep hb6.out
  have A9 := A4.keep hb6.out
  refine seq_lit ?_
  refine sq_makes (a' := fun g13 => ⟨#[sv cvS2, str m, pz (γ1 0), pz (γ1 1), pz (γ1 2), .int .i64 0, pz (γ6 0), pz (γ6 1), undef, undef, .func (.func 126) #[] #[pz g13], undef, undef, undef, undef, undef, undef, undef, undef, undef, undef, undef, undef], []⟩) (val := fun g13 => .func (.func 126) #[] #[pz g13]) (T := 27) (l := [.i .i64 0]) (fun _ => rfl) rfl (ex_call (vs := []) rfl Tryz.call73 rfl) (ptsteps_v _) ?_
  intro g13 w13 N13 le13 hb13
  have A14 := A7.keep hb13
  have A15 := A8.keep hb13
  have A16 := A9.keep hb13
  have A17 := A10.keep hb13
  have A18 := A11.keep hb13
  have HB19 := below_then HB12 hb13
  refine sv1 (.func (.func 126) #[] #[pz g13]) (ex_assign _) ?_
  refine seq_nil ?_
  refine seq_lit ?_
  refine sv1 (.func (.func 126) #[] #[pz g13]) (ex_move _) ?_
  refine sv1 (.func (.func 185) #[] #[pz (γ1 0), pz (γ1 1), pz (γ6 0)]) (ex_closure (cs := [pz (γ1 0), pz (γ1 1), pz (γ6 0)]) rfl) ?_
  refine sk1 (.int .i64 0) (ex_callc (vs := [.func (.func 185) #[] #[pz (γ1 0), pz (γ1 1), pz (γ6 0)]]) (cs := [pz g13]) rfl Tryz.call126 rfl) (pttake_chg g13 185 [pz (γ1 0), pz (γ1 1), pz (γ6 0)] Tryz.call185 0 ((γ6 0)) (Ne.symm (Nat.ne_of_lt (Nat.lt_of_lt_of_le A10.lt le13))) 43 [.n 6 x0, .n 6 x1] _ [.n 6 0, .n 6 0] A17 (fun w_ hb_ => pt2pf1_v ((γ1 0)) ((γ1 1)) ((γ6 0)) (Nat.ne_of_lt (Nat.lt_of_lt_of_le A2.lt le10)) (Nat.ne_of_lt (Nat.lt_of_lt_of_le A3.lt le10)) m hn x0 x1 0 hR w_ (A14.keep hb_) (A15.keep hb_) (A17.keep hb_)) N13) ?_
  rintro w23 ⟨hc23, N23_0, N23_1⟩
  have A24 := hc23.kept _ _ _ (Nat.ne_of_lt (Nat.lt_of_lt_of_le A7.lt le13)) (Nat.ne_of_lt (Nat.lt_of_lt_of_le A2.lt le10)) A14
  have A25 := hc23.kept _ _ _ (Nat.ne_of_lt (Nat.lt_of_lt_of_le A8.lt le13)) (Nat.ne_of_lt (Nat.lt_of_lt_of_le A3.lt le10)) A15
  have A26 := hc23.kept _ _ _ (Nat.ne_of_lt (Nat.lt_of_lt_of_le A9.lt le13)) (Nat.ne_of_lt (Nat.lt_of_lt_of_le A4.lt le10)) A16
  have A27 := hc23.kept _ _ _ (Nat.ne_of_lt (Nat.lt_of_lt_of_le A11.lt le13)) (Ne.symm (hn6 0 1 (by decide) (by decide) (by decide))) A18
  have HB28 := hc23.below HB19 (Nat.le_trans HB12.size le13) (Nat.le_trans HB5.size le10) rfl
  refine seq_nil ?_
  refine seq_lit ?_
  refine sv1 (.func (.func 126) #[] #[pz g13]) (ex_move _) ?_
  refine sv1 (.func (.func 186) #[] #[pz (γ1 0), pz (γ1 1), pz (γ6 1)]) (ex_closure (cs := [pz (γ1 0), pz (γ1 1), pz (γ6 1)]) rfl) ?_
  refine sk1 (.int .i64 e2) (ex_callc (vs := [.func (.func 186) #[] #[pz (γ1 0), pz (γ1 1), pz (γ6 1)]]) (cs := [pz g13]) rfl Tryz.call126 rfl) (pttake_chg g13 186 [pz (γ1 0), pz (γ1 1), pz (γ6 1)] Tryz.call186 e2 ((γ6 1)) (Ne.symm (Nat.ne_of_lt (Nat.lt_of_lt_of_le A11.lt le13))) 43 [.n 6 y0, .n 6 y1] _ [.n 6 0, .n 6 0] A27 (fun w_ hb_ => pt2pf2_v ((γ1 0)) ((γ1 1)) ((γ6 1)) (Nat.ne_of_lt (Nat.lt_of_lt_of_le A2.lt le11)) (Nat.ne_of_lt (Nat.lt_of_lt_of_le A3.lt le11)) m hn y0 y1 e2 hS w_ (A24.keep hb_) (A25.keep hb_) (A27.keep hb_)) N23_0) ?_
  rintro w31 ⟨hc31, N31_0, N31_1⟩
  have A32 := hc31.kept _ _ _ (Nat.ne_of_lt (Nat.lt_of_lt_of_le A7.lt le13)) (Nat.ne_of_lt (Nat.lt_of_lt_of_le A2.lt le11)) A24
  have A34 := hc31.kept _ _ _ (Nat.ne_of_lt (Nat.lt_of_lt_of_le A9.lt le13)) (Nat.ne_of_lt (Nat.lt_of_lt_of_le A4.lt le11)) A26
  have A35 := hc31.kept _ _ _ (Nat.ne_of_lt (Nat.lt_of_lt_of_le A10.lt le13)) (hn6 0 1 (by decide) (by decide) (by decide)) N23_1
  have HB36 := hc31.below HB28 (Nat.le_trans HB12.size le13) (Nat.le_trans HB5.size le11) rfl
  refine sv1 (.int .i64 e2) (ex_assign _) ?_
  refine seq_nil ?_
  refine seq_lit ?_
  refine sv1 (pq (γ1 0) 7) (ex_field faCv2_7 rfl) ?_
  refine sv1 (.func (.func 100) #[] #[]) (ex_load1 7 (s := .v (.func (.func 100) #[] #[])) (v := .func (.func 100) #[] #[]) sgT18 rfl A32 rfl rfl rfl) ?_
  refine sv1 (nv 6 [x0, x1]) (ex_loadsn (K := 6) 0 2 (m := [x0, x1]) flFp2 rfl rfl A35 rfl rfl) ?_
  refine sv1 (nv 6 [y0, y1]) (ex_loadsn (K := 6) 0 2 (m := [y0, y1]) flFp2 rfl rfl N31_1 rfl rfl) ?_
  refine sck HB36 Tryz.call100 (pt2made_v x0 x1 y0 y1 _) ?_
  intro w42 hb42 HB49
  have A45 := A34.keep hb42
  refine sv1 (.int .i64 e2) (ex_move _) ?_
  refine ss1 (ex_stores 0 5 (l := [.n 6 0, .n 6 0, .n 6 0, .n 6 0, .b false]) (m := [.n 6 x0, .n 6 x1, .n 6 y0, .n 6 y1, .b false]) flG2.2 rfl rfl rfl rfl A45 rfl rfl) ?_
  intro w51 hs51
  have A54 := hs51.here 0 5 (l' := [.n 6 x0, .n 6 x1, .n 6 y0, .n 6 y1, .b false]) A45 rfl rfl rfl
  have HB58 := hs51.below HB49 (Nat.le_trans (Nat.le_refl _) le4)
  refine sv1 (.int .i64 e2) (ex_assign _) ?_
  refine seq_nil ?_
  exact wp_ret (bodyPost_ret (ret2 Tryz.results154 (res_sv rfl A54 flG2 rfl) (res_tmp rfl)) rfl ⟨rfl, HB58⟩)
theorem pt2parse_inf (l : List UInt8) (hl : l ≠ []) (h6 : f6 (kOf l) = true) (e : Int) (hZ : CI 128 #[str l] (.int .i64 e)) (w : World) :
    Calls Tryz.prog 107 #[sv cvS2, str l] w (Is (.tuple #[sv [.n 6 0, .n 6 0, .n 6 0, .n 6 0, .b true], .int .i64 e]) w) := by
  go_enter Tryz.func107, Tryz.ntmps107
  refine rh2 (brf w) (79) 0 cvS2 45 1 [.n 6 0, .n 6 0, .n 6 0, .n 6 0, .b false] [2, 4, 5] (fun γ => [pz (γ 0), pz (γ 1), .int .i64 0]) ?_ ?_
  · refine stpb 0 (fun γ w h => ex_boxs (l := cvS2) rfl) ?_
    refine stpb 1 (fun γ w h => ex_allocs (l := [.n 6 0, .n 6 0, .n 6 0, .n 6 0, .b false]) zG2) ?_
    exact stpa .nil
  intro γ1 w1 hb1 A2 A3 _ le3 hn1 HB4
  refine wp_seq ?_
  refine rh0 HB4 [6, 7] [str l, .bool true] ?_ ?_
  · refine stpm ?_
    exact stpk Tryz.call127 (fun w h => pthas6_q l hl true h6 _) .nil
  intro w5 hb5 HB8
  have A6 := A2.keep hb5.out
  have A7 := A3.keep hb5.out
  refine wp_cond_true rfl ?_
  refine rhs HB8 le3 5 0 [.n 6 0, .n 6 0, .n 6 0, .n 6 0, .b true] [8, 9, 10, 11, 12, 5] [pq (γ1 0) 6, .func (.func 99) #[] #[], sv [.n 6 0, .n 6 0, .n 6 0, .n 6 0, .b true], str l, .int .i64 e, .int .i64 e] ?_ ?_
  · refine latv (fun γ w h => ex_field faCv2_6 rfl) ?_
    refine latv (fun γ w h => ex_load1 6 (s := .v (.func (.func 99) #[] #[])) (v := .func (.func 99) #[] #[]) sgT17 rfl (A6.keep h.out) rfl rfl rfl) ?_
    refine latk Tryz.call99 (fun w h => twoZero_v _) ?_
    refine lata (fun γ w h => ex_move _) ?_
    refine latk Tryz.call128 (fun w h => hZ _) ?_
    refine latq 0 5 flG2.2 A7 ?_
    exact lata (fun γ w h => ex_assign _) .nil
  intro w9 w9_ hb9 hs9 HB15
  have A11 := A7.keep hb9.out
  have A14 := hs9.here 0 5 (l' := [.n 6 0, .n 6 0, .n 6 0, .n 6 0, .b true]) A11 rfl rfl rfl
  exact wp_ret (th_ret (bodyPost_ret (ret2 Tryz.results107 (res_sv rfl A14 flG2 rfl) (res_tmp rfl)) rfl ⟨rfl, HB15⟩))
theorem pt2parse_short (l : List UInt8) (hl : l ≠ []) (hn : l.length ≤ 500) (h6 : f6 (kOf l) = false) (h7 : f7 (kOf l) = true) (u : Bool) (h5 : f5 (kOf l) = u) (x0 : Nat) (x1 : Nat) (y0 : Nat) (y1 : Nat) (i : Bool) (e : Int) (hP : CI 153 #[sv cvS2, str ((low l)), .bool u] (.tuple #[sv [.n 6 x0, .n 6 x1, .n 6 y0, .n 6 y1, .b i], .int .i64 e])) (w : World) :
    Calls Tryz.prog 107 #[sv cvS2, str l] w (Is (.tuple #[sv [.n 6 x0, .n 6 x1, .n 6 y0, .n 6 y1, .b i], .int .i64 e]) w) := by
  go_enter Tryz.func107, Tryz.ntmps107
  refine rh2 (brf w) (79) 0 cvS2 45 1 [.n 6 0, .n 6 0, .n 6 0, .n 6 0, .b false] [2, 4, 5] (fun γ => [pz (γ 0), pz (γ 1), .int .i64 0]) ?_ ?_
  · refine stpb 0 (fun γ w h => ex_boxs (l := cvS2) rfl) ?_
    refine stpb 1 (fun γ w h => ex_allocs (l := [.n 6 0, .n 6 0, .n 6 0, .n 6 0, .b false]) zG2) ?_
    exact stpa .nil
  intro γ1 w1 hb1 A2 A3 _ le3 hn1 HB4
  refine wp_seq ?_
  refine rh0 HB4 [6, 7] [str l, .bool false] ?_ ?_
  · refine stpm ?_
    exact stpk Tryz.call127 (fun w h => pthas6_q l hl false h6 _) .nil
  intro w5 hb5 HB8
  have A6 := A2.keep hb5.out
  have A7 := A3.keep hb5.out
  refine wp_cond_false rfl ?_
  refine wp_skip ?_
  refine th_r ?_
  refine wp_seq ?_
  refine rh0 HB8 [13, 14] [str l, .bool true] ?_ ?_
  · refine stpm ?_
    exact stpk Tryz.call127 (fun w h => pthas7_q l hl true h7 _) .nil
  intro w9 hb9 HB12
  have A10 := A6.keep hb9.out
  have A11 := A7.keep hb9.out
  refine wp_cond_true rfl ?_
  refine rhs HB12 le3 8 0 [.n 6 x0, .n 6 x1, .n 6 y0, .n 6 y1, .b i] [15, 16, 17, 18, 19, 20, 21, 22, 5] [sv cvS2, str l, str ((low l)), str l, .bool u, .tuple #[sv [.n 6 x0, .n 6 x1, .n 6 y0, .n 6 y1, .b i], .int .i64 e], sv [.n 6 x0, .n 6 x1, .n 6 y0, .n 6 y1, .b i], .int .i64 e, .int .i64 e] ?_ ?_
  · refine latv (fun γ w h => ex_loads 0 11 (m := cvS2) flCv2 rfl rfl (A10.keep h.out) rfl rfl) ?_
    refine latm ?_
    refine latk Tryz.call130 (fun w h => ptbare_q l hl hn _) ?_
    refine latm ?_
    refine latk Tryz.call127 (fun w h => pthas5_q l hl u h5 _) ?_
    refine latk Tryz.call153 (fun w h => hP _) ?_
    refine latv (fun γ w h => ex_extract rfl rfl) ?_
    refine latv (fun γ w h => ex_extract rfl rfl) ?_
    refine latq 0 5 flG2.2 A11 ?_
    exact lata (fun γ w h => ex_assign _) .nil
  intro w13 w13_ hb13 hs13 HB19
  have A15 := A11.keep hb13.out
  have A18 := hs13.here 0 5 (l' := [.n 6 x0, .n 6 x1, .n 6 y0, .n 6 y1, .b i]) A15 rfl rfl rfl
  exact wp_ret (th_ret (bodyPost_ret (ret2 Tryz.results107 (res_sv rfl A18 flG2 rfl) (res_tmp rfl)) rfl ⟨rfl, HB19⟩))
theorem pt2parse_full (l : List UInt8) (hl : l ≠ []) (h6 : f6 (kOf l) = false) (h7 : f7 (kOf l) = false) (x0 : Nat) (x1 : Nat) (y0 : Nat) (y1 : Nat) (i : Bool) (e : Int) (hP : CI 154 #[sv cvS2, str l] (.tuple #[sv [.n 6 x0, .n 6 x1, .n 6 y0, .n 6 y1, .b i], .int .i64 e])) (w : World) :
    Calls Tryz.prog 107 #[sv cvS2, str l] w (Is (.tuple #[sv [.n 6 x0, .n 6 x1, .n 6 y0, .n 6 y1, .b i], .int .i64 e]) w) := by
  go_enter Tryz.func107, Tryz.ntmps107
  refine rh2 (brf w) (79) 0 cvS2 45 1 [.n 6 0, .n 6 0, .n 6 0, .n 6 0, .b false] [2, 4, 5] (fun γ => [pz (γ 0), pz (γ 1), .int .i64 0]) ?_ ?_
  · refine stpb 0 (fun γ w h => ex_boxs (l := cvS2) rfl) ?_
    refine stpb 1 (fun γ w h => ex_allocs (l := [.n 6 0, .n 6 0, .n 6 0, .n 6 0, .b false]) zG2) ?_
    exact stpa .nil
  intro γ1 w1 hb1 A2 A3 _ le3 hn1 HB4
  refine wp_seq ?_
  refine rh0 HB4 [6, 7] [str l, .bool false] ?_ ?_
  · refine stpm ?_
    exact stpk Tryz.call127 (fun w h => pthas6_q l hl false h6 _) .nil
  intro w5 hb5 HB8
  have A6 := A2.keep hb5.out
  have A7 := A3.keep hb5.out
  refine wp_cond_false rfl ?_
  refine wp_skip ?_
  refine th_r ?_
  refine wp_seq ?_
  refine rh0 HB8 [13, 14] [str l, .bool false] ?_ ?_
  · refine stpm ?_
    exact stpk Tryz.call127 (fun w h => pthas7_q l hl false h7 _) .nil
  intro w9 hb9 HB12
  have A10 := A6.keep hb9.out
  have A11 := A7.keep hb9.out
  refine wp_cond_false rfl ?_
  refine wp_skip ?_
  refine th_r ?_
  refine rhs HB12 le3 5 0 [.n 6 x0, .n 6 x1, .n 6 y0, .n 6 y1, .b i] [23, 24, 25, 26, 27, 5] [sv cvS2, str l, .tuple #[sv [.n 6 x0, .n 6 x1, .n 6 y0, .n 6 y1, .b i], .int .i64 e], sv [.n 6 x0, .n 6 x1, .n 6 y0, .n 6 y1, .b i], .int .i64 e, .int .i64 e] ?_ ?_
  · refine latv (fun γ w h => ex_loads 0 11 (m := cvS2) flCv2 rfl rfl (A10.keep h.out) rfl rfl) ?_
    refine latm ?_
    refine latk Tryz.call154 (fun w h => hP _) ?_
    refine latv (fun γ w h => ex_extract rfl rfl) ?_
    refine latv (fun γ w h => ex_extract rfl rfl) ?_
    refine latq 0 5 flG2.2 A11 ?_
    exact lata (fun γ w h => ex_assign _) .nil
  intro w13 w13_ hb13 hs13 HB19
  have A15 := A11.keep hb13.out
  have A18 := hs13.here 0 5 (l' := [.n 6 x0, .n 6 x1, .n 6 y0, .n 6 y1, .b i]) A15 rfl rfl rfl
  exact wp_ret (bodyPost_ret (ret2 Tryz.results107 (res_sv rfl A18 flG2 rfl) (res_tmp rfl)) rfl ⟨rfl, HB19⟩)
theorem pt2len_s (l : List UInt8) (hl : l.length = 96) (w : World) :
    Calls Tryz.prog 104 #[sv cvS2, str l] w (Is (.int .i64 0) w) := by
  go_enter Tryz.func104, Tryz.ntmps104
  refine rh1 (brf w) (79) 0 cvS2 [2, 4] (fun γ => [pz (γ 0), .int .i64 0]) ?_ ?_
  · refine stpb 0 (fun γ w h => ex_boxs (l := cvS2) rfl) ?_
    exact stpa .nil
  intro γ1 w1 hb1 A2 _ HB3
  refine wp_seq ?_
  refine rh0 HB3 [5, 6, 7, 8, 9, 10, 11, 12, 13, 14, 15, 16, 17] [str l, .int .i64 96, pz (γ1 0), .int .i64 96, .bool false, .bool false, undef, undef, undef, undef, undef, undef, .bool false] ?_ ?_
  · refine stpm ?_
    refine stpx (fun _ _ => ex_lenL (l := l) (n := 96) rfl hl rfl) ?_
    refine stpx (fun _ _ => ex_field faCv2_0 rfl) ?_
    refine stpv (fun γ w h => ex_load1 0 (s := .i .i64 96) (v := .int .i64 96) sgInt rfl (A2.keep h.out) rfl rfl rfl) ?_
    refine stpx (fun _ _ => ex_neqi rfl rfl _ rfl) ?_
    refine stpm ?_
    refine stps ?_
    refine stps ?_
    refine stps ?_
    refine stps ?_
    refine stps ?_
    refine stps ?_
    exact stpx (fun _ _ => ex_pick (r := false) rfl) .nil
  intro w4 hb4 HB6
  refine wp_cond_false rfl ?_
  refine wp_skip ?_
  refine th_r ?_
  refine rh0 HB6 [4] [.int .i64 0] ?_ ?_
  · exact stpa .nil
  intro w7 hb7 HB9
  exact wp_ret (bodyPost_ret (ret1 Tryz.results104 (res_tmp rfl)) rfl ⟨rfl, HB9⟩)
theorem pt2len_f (l : List UInt8) (hl : l.length = 192) (w : World) :
    Calls Tryz.prog 104 #[sv cvS2, str l] w (Is (.int .i64 0) w) := by
  go_enter Tryz.func104, Tryz.ntmps104
  refine rh1 (brf w) (79) 0 cvS2 [2, 4] (fun γ => [pz (γ 0), .int .i64 0]) ?_ ?_
  · refine stpb 0 (fun γ w h => ex_boxs (l := cvS2) rfl) ?_
    exact stpa .nil
  intro γ1 w1 hb1 A2 _ HB3
  refine wp_seq ?_
  refine rh0 HB3 [5, 6, 7, 8, 9, 10, 11, 12, 13, 14, 15, 16, 17] [str l, .int .i64 192, pz (γ1 0), .int .i64 96, .bool true, .bool true, str l, .int .i64 192, pz (γ1 0), .int .i64 96, .int .i64 192, .bool false, .bool false] ?_ ?_
  · refine stpm ?_
    refine stpx (fun _ _ => ex_lenL (l := l) (n := 192) rfl hl rfl) ?_
    refine stpx (fun _ _ => ex_field faCv2_0 rfl) ?_
    refine stpv (fun γ w h => ex_load1 0 (s := .i .i64 96) (v := .int .i64 96) sgInt rfl (A2.keep h.out) rfl rfl rfl) ?_
    refine stpx (fun _ _ => ex_neqi rfl rfl _ rfl) ?_
    refine stpm ?_
    refine stpm ?_
    refine stpx (fun _ _ => ex_lenL (l := l) (n := 192) rfl hl rfl) ?_
    refine stpx (fun _ _ => ex_field faCv2_0 rfl) ?_
    refine stpv (fun γ w h => ex_load1 0 (s := .i .i64 96) (v := .int .i64 96) sgInt rfl (A2.keep h.out) rfl rfl rfl) ?_
    refine stpx (fun _ _ => ex_imul rfl rfl 192 rfl) ?_
    refine stpx (fun _ _ => ex_neqi rfl rfl _ rfl) ?_
    exact stpx (fun _ _ => ex_pick (r := true) rfl) .nil
  intro w4 hb4 HB6
  refine wp_cond_false rfl ?_
  refine wp_skip ?_
  refine th_r ?_
  refine rh0 HB6 [4] [.int .i64 0] ?_ ?_
  · exact stpa .nil
  intro w7 hb7 HB9
  exact wp_ret (bodyPost_ret (ret1 Tryz.results104 (res_tmp rfl)) rfl ⟨rfl, HB9⟩)
end Go.Proofs.YtplbcdafelejbaaGreatDoor

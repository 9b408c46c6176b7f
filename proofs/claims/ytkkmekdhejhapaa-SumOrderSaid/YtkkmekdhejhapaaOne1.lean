/- What is proved here: what the functions of package one on three numbers answer; which points of package one may be; sums and negatives of points. -/
import Derived.Test.YtkkmekdhejhapaaComp
import Derived.Test.YtkkmekdhejhapaaOneZ
import Derived.Test.YtkkmekdhejhapaaLimb
namespace Go.Proofs.Ytkkmekdhejhapaa
open Go.RowKit Cv
set_option maxRecDepth 20000
set_option maxHeartbeats 4000000
theorem onetwofold_e' (x v : Zp) (hv : v = 2 * x) : CI 70 #[nv 6 [x.val]] (nv 6 [v.val]) := fun w => by
  obtain ⟨z1, ez1⟩ := nm (x + x : Zp)
  obtain rfl : z1 = v := by subst ez1; rw [hv]; first | done | (clear hv; grind)
  go_enter Try.func70, Try.ntmps70
  refine rh2 (brf w) 26 0 [.n 6 x.val] 26 1 [.n 6 0] [1, 2] (fun γ => [pz (γ 0), pz (γ 1)]) ?_ ?_
  · refine stpb 0 (fun γ w h => ex_boxsn (K := 6) (l := [x.val]) rfl) ?_
    exact stpb 1 (fun γ w h => ex_allocsn (K := 6) (l := [0]) zFp) .nil
  intro γ1 w1 hb1 A2 A3 _ le3 hn1 HB4
  refine rhs HB4 le3 3 0 [.n 6 z1.val] [3, 4, 5] [nv 6 [x.val], nv 6 [x.val], nv 6 [z1.val]] ?_ ?_
  · refine latl 0 1 flFp A2 ?_
    refine latl 0 1 flFp A2 ?_
    refine latk Try.call34 (fun w h => fpAdd_e x x z1 rfl rfl ez1 _) ?_
    exact lato 0 1 flFp.2 (nv_cells 6 [z1.val]) A3 .nil
  intro w5 w5_ hb5 hs5 HB11
  have A7 := A3.keep hb5.out
  have A10 := hs5.here 0 1 (l' := [.n 6 z1.val]) A7 rfl rfl rfl
  exact wpr (ret1 Try.results70 (res_nv (K := 6) (l := [z1.val]) rfl A10 flFp rfl)) HB11
theorem onetwofold_e {l0 : List Nat} (x v : Zp) (hl0 : l0 = [x.val]) (hv : v = 2 * x) : CI 70 #[nv 6 l0] (nv 6 [v.val]) := fun w => by
  subst hl0
  exact onetwofold_e' x v hv w
theorem onethreefold_e' (x v : Zp) (hv : v = 3 * x) : CI 44 #[nv 6 [x.val]] (nv 6 [v.val]) := fun w => by
  obtain ⟨z1, ez1⟩ := nm (2 * x : Zp)
  obtain ⟨z2, ez2⟩ := nm (z1 + x : Zp)
  obtain rfl : z2 = v := by subst ez2 ez1; rw [hv]; first | done | (clear hv; grind)
  go_enter Try.func44, Try.ntmps44
  refine rh2 (brf w) 26 0 [.n 6 x.val] 26 1 [.n 6 0] [1, 2] (fun γ => [pz (γ 0), pz (γ 1)]) ?_ ?_
  · refine stpb 0 (fun γ w h => ex_boxsn (K := 6) (l := [x.val]) rfl) ?_
    exact stpb 1 (fun γ w h => ex_allocsn (K := 6) (l := [0]) zFp) .nil
  intro γ1 w1 hb1 A2 A3 _ le3 hn1 HB4
  refine rhs HB4 le3 4 0 [.n 6 z2.val] [3, 4, 5, 6] [nv 6 [x.val], nv 6 [z1.val], nv 6 [x.val], nv 6 [z2.val]] ?_ ?_
  · refine latl 0 1 flFp A2 ?_
    refine latk Try.call70 (fun w h => onetwofold_e x z1 rfl ez1 _) ?_
    refine latl 0 1 flFp A2 ?_
    refine latk Try.call34 (fun w h => fpAdd_e z1 x z2 rfl rfl ez2 _) ?_
    exact lato 0 1 flFp.2 (nv_cells 6 [z2.val]) A3 .nil
  intro w5 w5_ hb5 hs5 HB11
  have A7 := A3.keep hb5.out
  have A10 := hs5.here 0 1 (l' := [.n 6 z2.val]) A7 rfl rfl rfl
  exact wpr (ret1 Try.results44 (res_nv (K := 6) (l := [z2.val]) rfl A10 flFp rfl)) HB11
theorem onethreefold_e {l0 : List Nat} (x v : Zp) (hl0 : l0 = [x.val]) (hv : v = 3 * x) : CI 44 #[nv 6 l0] (nv 6 [v.val]) := fun w => by
  subst hl0
  exact onethreefold_e' x v hv w
theorem onecrossed_e' (x1 y1 x2 y2 v : Zp) (hv : v = x1 * y2 + y1 * x2) : CI 45 #[nv 6 [x1.val], nv 6 [y1.val], nv 6 [x2.val], nv 6 [y2.val]] (nv 6 [v.val]) := fun w => by
  obtain ⟨z1, ez1⟩ := nm (x1 * y2 : Zp)
  obtain ⟨z2, ez2⟩ := nm (y1 * x2 : Zp)
  obtain ⟨z3, ez3⟩ := nm (z1 + z2 : Zp)
  obtain rfl : z3 = v := by subst ez3 ez2 ez1; rw [hv]; first | done | (clear hv; grind)
  go_enter Try.func45, Try.ntmps45
  refine rhc (brf w) [bs 26 0 [.n 6 x1.val], bs 26 1 [.n 6 y1.val], bs 26 2 [.n 6 x2.val], bs 26 3 [.n 6 y2.val], bs 26 4 [.n 6 0]] [4, 5, 6, 7, 8] (fun γ => [pz (γ 0), pz (γ 1), pz (γ 2), pz (γ 3), pz (γ 4)]) ?_ ?_
  · refine stpb 0 (fun γ w h => ex_boxsn (K := 6) (l := [x1.val]) rfl) ?_
    refine stpb 1 (fun γ w h => ex_boxsn (K := 6) (l := [y1.val]) rfl) ?_
    refine stpb 2 (fun γ w h => ex_boxsn (K := 6) (l := [x2.val]) rfl) ?_
    refine stpb 3 (fun γ w h => ex_boxsn (K := 6) (l := [y2.val]) rfl) ?_
    exact stpb 4 (fun γ w h => ex_allocsn (K := 6) (l := [0]) zFp) .nil
  intro γ1 w1 hb1 hB1 hn1 HB7
  have A2 : SB 26 w1 (γ1 0) [.n 6 x1.val] := (hB1 0 rfl).2
  have A3 : SB 26 w1 (γ1 1) [.n 6 y1.val] := (hB1 1 rfl).2
  have A4 : SB 26 w1 (γ1 2) [.n 6 x2.val] := (hB1 2 rfl).2
  have A5 : SB 26 w1 (γ1 3) [.n 6 y2.val] := (hB1 3 rfl).2
  have A6 : SB 26 w1 (γ1 4) [.n 6 0] := (hB1 4 rfl).2
  have le6 := (hB1 4 rfl).1
  refine rhs HB7 le6 7 0 [.n 6 z3.val] [9, 10, 11, 12, 13, 14, 15] [nv 6 [x1.val], nv 6 [y2.val], nv 6 [z1.val], nv 6 [y1.val], nv 6 [x2.val], nv 6 [z2.val], nv 6 [z3.val]] ?_ ?_
  · refine latl 0 1 flFp A2 ?_
    refine latl 0 1 flFp A5 ?_
    refine latk Try.call33 (fun w h => fpMul_e x1 y2 z1 rfl rfl ez1 _) ?_
    refine latl 0 1 flFp A3 ?_
    refine latl 0 1 flFp A4 ?_
    refine latk Try.call33 (fun w h => fpMul_e y1 x2 z2 rfl rfl ez2 _) ?_
    refine latk Try.call34 (fun w h => fpAdd_e z1 z2 z3 rfl rfl ez3 _) ?_
    exact lato 0 1 flFp.2 (nv_cells 6 [z3.val]) A6 .nil
  intro w8 w8_ hb8 hs8 HB20
  have A13 := A6.keep hb8.out
  have A19 := hs8.here 0 1 (l' := [.n 6 z3.val]) A13 rfl rfl rfl
  exact wpr (ret1 Try.results45 (res_nv (K := 6) (l := [z3.val]) rfl A19 flFp rfl)) HB20
theorem onecrossed_e {l0 : List Nat} {l1 : List Nat} {l2 : List Nat} {l3 : List Nat} (x1 y1 x2 y2 v : Zp) (hl0 : l0 = [x1.val]) (hl1 : l1 = [y1.val]) (hl2 : l2 = [x2.val]) (hl3 : l3 = [y2.val]) (hv : v = x1 * y2 + y1 * x2) : CI 45 #[nv 6 l0, nv 6 l1, nv 6 l2, nv 6 l3] (nv 6 [v.val]) := fun w => by
  subst hl0 hl1 hl2 hl3
  exact onecrossed_e' x1 y1 x2 y2 v hv w
theorem oneplus_q {s t u : Tri Zp} (hu : u = plusT (12 : Zp) s t) : CI 26 #[sv [.n 6 s.x.val, .n 6 s.y.val, .n 6 s.z.val], sv [.n 6 t.x.val, .n 6 t.y.val, .n 6 t.z.val]] (sv [.n 6 u.x.val, .n 6 u.y.val, .n 6 u.z.val]) := fun w => by
  obtain ⟨z1, ez1⟩ := nm (s.x * t.x : Zp)
  obtain ⟨z2, ez2⟩ := nm (3 * z1 : Zp)
  obtain ⟨z3, ez3⟩ := nm (s.y * t.y : Zp)
  obtain ⟨z4, ez4⟩ := nm (s.z * t.z : Zp)
  obtain ⟨z5, ez5⟩ := nm (((12 : Zp)) * z4 : Zp)
  obtain ⟨z6, ez6⟩ := nm (s.x * t.z + s.z * t.x : Zp)
  obtain ⟨z7, ez7⟩ := nm (((12 : Zp)) * z6 : Zp)
  obtain ⟨z8, ez8⟩ := nm (s.x * t.y + s.y * t.x : Zp)
  obtain ⟨z9, ez9⟩ := nm (s.y * t.z + s.z * t.y : Zp)
  obtain ⟨z10, ez10⟩ := nm (z3 - z5 : Zp)
  obtain ⟨z11, ez11⟩ := nm (z3 + z5 : Zp)
  obtain ⟨z12, ez12⟩ := nm (z8 * z10 : Zp)
  obtain ⟨z13, ez13⟩ := nm (z9 * z7 : Zp)
  obtain ⟨z14, ez14⟩ := nm (z12 - z13 : Zp)
  obtain ⟨z15, ez15⟩ := nm (z11 * z10 : Zp)
  obtain ⟨z16, ez16⟩ := nm (z2 * z7 : Zp)
  obtain ⟨z17, ez17⟩ := nm (z15 + z16 : Zp)
  obtain ⟨z18, ez18⟩ := nm (z9 * z11 : Zp)
  obtain ⟨z19, ez19⟩ := nm (z2 * z8 : Zp)
  obtain ⟨z20, ez20⟩ := nm (z18 + z19 : Zp)
  have E : plusT (12 : Zp) s t = ⟨z14, z17, z20⟩ := by subst ez20 ez19 ez18 ez17 ez16 ez15 ez14 ez13 ez12 ez11 ez10 ez9 ez8 ez7 ez6 ez5 ez4 ez3 ez2 ez1; rfl
  rw [hu, E]
  go_enter Try.func26, Try.ntmps26
  refine rh3 (brf w) 56 0 [.n 6 s.x.val, .n 6 s.y.val, .n 6 s.z.val] 56 1 [.n 6 t.x.val, .n 6 t.y.val, .n 6 t.z.val] 56 2 [.n 6 0, .n 6 0, .n 6 0] [2, 3, 4] (fun γ => [pz (γ 0), pz (γ 1), pz (γ 2)]) ?_ ?_
  · refine stpb 0 (fun γ w h => ex_boxs (l := [.n 6 s.x.val, .n 6 s.y.val, .n 6 s.z.val]) rfl) ?_
    refine stpb 1 (fun γ w h => ex_boxs (l := [.n 6 t.x.val, .n 6 t.y.val, .n 6 t.z.val]) rfl) ?_
    exact stpb 2 (fun γ w h => ex_allocs (l := [.n 6 0, .n 6 0, .n 6 0]) zPG1) .nil
  intro γ1 w1 hb1 A2 A3 A4 _ _ le4 hn1 HB5
  refine rhc HB5 [(26, 11, 13, [.n 6 0], [.n 6 z2.val]), (26, 12, 14, [.n 6 0], [.n 6 z3.val])] [13, 14, 15, 16, 17, 18, 19, 20, 21, 22, 23, 5, 6] (fun γ => [pz (γ1 0), nv 6 [s.x.val], pz (γ1 1), nv 6 [t.x.val], nv 6 [z1.val], nv 6 [z2.val], pq (γ1 0) 6, nv 6 [s.y.val], pq (γ1 1) 6, nv 6 [t.y.val], nv 6 [z3.val], pz (γ 0), pz (γ 1)]) ?_ ?_
  · refine stpx (fun _ _ => ex_field faPG1_0 rfl) ?_
    refine stpl 0 1 flFp A2 ?_
    refine stpx (fun _ _ => ex_field faPG1_0 rfl) ?_
    refine stpl 0 1 flFp A3 ?_
    refine stpk Try.call33 (fun w h => fpMul_e s.x t.x z1 rfl rfl ez1 _) ?_
    refine stpk Try.call44 (fun w h => onethreefold_e z1 z2 rfl ez2 _) ?_
    refine stpx (fun _ _ => ex_field faPG1_1 rfl) ?_
    refine stpl 1 1 flFp A2 ?_
    refine stpx (fun _ _ => ex_field faPG1_1 rfl) ?_
    refine stpl 1 1 flFp A3 ?_
    refine stpk Try.call33 (fun w h => fpMul_e s.y t.y z3 rfl rfl ez3 _) ?_
    refine stpn 0 (fun γ w => ex_allocsn (K := 6) (l := [0]) zFp) ?_
    refine stpn 1 (fun γ w => ex_allocsn (K := 6) (l := [0]) zFp) ?_
    refine stpo 0 0 1 flFp.2 (nv_cells 6 [z2.val]) ?_
    exact stpo 1 0 1 flFp.2 (nv_cells 6 [z3.val]) .nil
  intro γ6 w6 hb6 hB6 hn6 HB12
  have A7 := A2.keep hb6.out
  have A8 := A3.keep hb6.out
  have A9 := A4.keep hb6.out
  have A10 : SB 26 w6 (γ6 0) [.n 6 z2.val] := (hB6 0 rfl).2
  have A11 : SB 26 w6 (γ6 1) [.n 6 z3.val] := (hB6 1 rfl).2
  refine rhc HB12 [(26, 7, 8, [.n 6 0], [.n 6 z5.val])] [24, 25, 26, 27, 28, 29, 30, 7] (fun γ => [nv 6 [12], pq (γ1 0) 12, nv 6 [s.z.val], pq (γ1 1) 12, nv 6 [t.z.val], nv 6 [z4.val], nv 6 [z5.val], pz (γ 0)]) ?_ ?_
  · refine stpx (fun _ _ => ex_limb6 (e := 12) (by decide) rfl) ?_
    refine stpx (fun _ _ => ex_field faPG1_2 rfl) ?_
    refine stpl 2 1 flFp A7 ?_
    refine stpx (fun _ _ => ex_field faPG1_2 rfl) ?_
    refine stpl 2 1 flFp A8 ?_
    refine stpk Try.call33 (fun w h => fpMul_e s.z t.z z4 rfl rfl ez4 _) ?_
    refine stpc (nv 6 [z5.val]) (fun γ w => ex_call (vs := [nv 6 [12], nv 6 [z4.val]]) rfl Try.call33 rfl) (fun w h => fpMul_e ((12 : Zp)) z4 z5 (zc 12 (small_P (by decide))) rfl ez5 _) ?_
    refine stpn 0 (fun γ w => ex_allocsn (K := 6) (l := [0]) zFp) ?_
    exact stpo 0 0 1 flFp.2 (nv_cells 6 [z5.val]) .nil
  intro γ13 w13 hb13 hB13 _ HB20
  have A14 := A7.keep hb13.out
  have A15 := A8.keep hb13.out
  have A16 := A9.keep hb13.out
  have A17 := A10.keep hb13.out
  have A18 := A11.keep hb13.out
  have A19 : SB 26 w13 (γ13 0) [.n 6 z5.val] := (hB13 0 rfl).2
  refine rhc HB20 [(26, 11, 12, [.n 6 0], [.n 6 z7.val])] [31, 32, 33, 34, 35, 36, 37, 38, 39, 40, 41, 8] (fun γ => [nv 6 [12], pz (γ1 0), nv 6 [s.x.val], pq (γ1 0) 12, nv 6 [s.z.val], pz (γ1 1), nv 6 [t.x.val], pq (γ1 1) 12, nv 6 [t.z.val], nv 6 [z6.val], nv 6 [z7.val], pz (γ 0)]) ?_ ?_
  · refine stpx (fun _ _ => ex_limb6 (e := 12) (by decide) rfl) ?_
    refine stpx (fun _ _ => ex_field faPG1_0 rfl) ?_
    refine stpl 0 1 flFp A14 ?_
    refine stpx (fun _ _ => ex_field faPG1_2 rfl) ?_
    refine stpl 2 1 flFp A14 ?_
    refine stpx (fun _ _ => ex_field faPG1_0 rfl) ?_
    refine stpl 0 1 flFp A15 ?_
    refine stpx (fun _ _ => ex_field faPG1_2 rfl) ?_
    refine stpl 2 1 flFp A15 ?_
    refine stpk Try.call45 (fun w h => onecrossed_e s.x s.z t.x t.z z6 rfl rfl rfl rfl ez6 _) ?_
    refine stpc (nv 6 [z7.val]) (fun γ w => ex_call (vs := [nv 6 [12], nv 6 [z6.val]]) rfl Try.call33 rfl) (fun w h => fpMul_e ((12 : Zp)) z6 z7 (zc 12 (small_P (by decide))) rfl ez7 _) ?_
    refine stpn 0 (fun γ w => ex_allocsn (K := 6) (l := [0]) zFp) ?_
    exact stpo 0 0 1 flFp.2 (nv_cells 6 [z7.val]) .nil
  intro γ21 w21 hb21 hB21 _ HB29
  have A22 := A14.keep hb21.out
  have A23 := A15.keep hb21.out
  have A24 := A16.keep hb21.out
  have A25 := A17.keep hb21.out
  have A26 := A18.keep hb21.out
  have A27 := A19.keep hb21.out
  have A28 : SB 26 w21 (γ21 0) [.n 6 z7.val] := (hB21 0 rfl).2
  refine rhc HB29 [(26, 18, 20, [.n 6 0], [.n 6 z8.val]), (26, 19, 21, [.n 6 0], [.n 6 z9.val])] [42, 43, 44, 45, 46, 47, 48, 49, 50, 51, 52, 53, 54, 55, 56, 57, 58, 59, 9, 10] (fun γ => [pz (γ1 0), nv 6 [s.x.val], pq (γ1 0) 6, nv 6 [s.y.val], pz (γ1 1), nv 6 [t.x.val], pq (γ1 1) 6, nv 6 [t.y.val], nv 6 [z8.val], pq (γ1 0) 6, nv 6 [s.y.val], pq (γ1 0) 12, nv 6 [s.z.val], pq (γ1 1) 6, nv 6 [t.y.val], pq (γ1 1) 12, nv 6 [t.z.val], nv 6 [z9.val], pz (γ 0), pz (γ 1)]) ?_ ?_
  · refine stpx (fun _ _ => ex_field faPG1_0 rfl) ?_
    refine stpl 0 1 flFp A22 ?_
    refine stpx (fun _ _ => ex_field faPG1_1 rfl) ?_
    refine stpl 1 1 flFp A22 ?_
    refine stpx (fun _ _ => ex_field faPG1_0 rfl) ?_
    refine stpl 0 1 flFp A23 ?_
    refine stpx (fun _ _ => ex_field faPG1_1 rfl) ?_
    refine stpl 1 1 flFp A23 ?_
    refine stpk Try.call45 (fun w h => onecrossed_e s.x s.y t.x t.y z8 rfl rfl rfl rfl ez8 _) ?_
    refine stpx (fun _ _ => ex_field faPG1_1 rfl) ?_
    refine stpl 1 1 flFp A22 ?_
    refine stpx (fun _ _ => ex_field faPG1_2 rfl) ?_
    refine stpl 2 1 flFp A22 ?_
    refine stpx (fun _ _ => ex_field faPG1_1 rfl) ?_
    refine stpl 1 1 flFp A23 ?_
    refine stpx (fun _ _ => ex_field faPG1_2 rfl) ?_
    refine stpl 2 1 flFp A23 ?_
    refine stpk Try.call45 (fun w h => onecrossed_e s.y s.z t.y t.z z9 rfl rfl rfl rfl ez9 _) ?_
    refine stpn 0 (fun γ w => ex_allocsn (K := 6) (l := [0]) zFp) ?_
    refine stpn 1 (fun γ w => ex_allocsn (K := 6) (l := [0]) zFp) ?_
    refine stpo 0 0 1 flFp.2 (nv_cells 6 [z8.val]) ?_
    exact stpo 1 0 1 flFp.2 (nv_cells 6 [z9.val]) .nil
  intro γ30 w30 hb30 hB30 hn30 HB40
  have A33 := A24.keep hb30.out
  have A34 := A25.keep hb30.out
  have A35 := A26.keep hb30.out
  have A36 := A27.keep hb30.out
  have A37 := A28.keep hb30.out
  have A38 : SB 26 w30 (γ30 0) [.n 6 z8.val] := (hB30 0 rfl).2
  have A39 : SB 26 w30 (γ30 1) [.n 6 z9.val] := (hB30 1 rfl).2
  refine rhc HB40 [(26, 6, 8, [.n 6 0], [.n 6 z10.val]), (26, 7, 9, [.n 6 0], [.n 6 z11.val])] [60, 61, 62, 63, 64, 65, 11, 12] (fun γ => [nv 6 [z3.val], nv 6 [z5.val], nv 6 [z10.val], nv 6 [z3.val], nv 6 [z5.val], nv 6 [z11.val], pz (γ 0), pz (γ 1)]) ?_ ?_
  · refine stpl 0 1 flFp A35 ?_
    refine stpl 0 1 flFp A36 ?_
    refine stpk Try.call46 (fun w h => fpSub_e z3 z5 z10 rfl rfl ez10 _) ?_
    refine stpl 0 1 flFp A35 ?_
    refine stpl 0 1 flFp A36 ?_
    refine stpk Try.call34 (fun w h => fpAdd_e z3 z5 z11 rfl rfl ez11 _) ?_
    refine stpn 0 (fun γ w => ex_allocsn (K := 6) (l := [0]) zFp) ?_
    refine stpn 1 (fun γ w => ex_allocsn (K := 6) (l := [0]) zFp) ?_
    refine stpo 0 0 1 flFp.2 (nv_cells 6 [z10.val]) ?_
    exact stpo 1 0 1 flFp.2 (nv_cells 6 [z11.val]) .nil
  intro γ41 w41 hb41 hB41 hn41 HB53
  have A44 := A33.keep hb41.out
  have A45 := A34.keep hb41.out
  have A48 := A37.keep hb41.out
  have A49 := A38.keep hb41.out
  have A50 := A39.keep hb41.out
  have A51 : SB 26 w41 (γ41 0) [.n 6 z10.val] := (hB41 0 rfl).2
  have A52 : SB 26 w41 (γ41 1) [.n 6 z11.val] := (hB41 1 rfl).2
  refine rhs HB53 le4 22 0 [.n 6 z14.val, .n 6 z17.val, .n 6 z20.val] [66, 67, 68, 69, 70, 71, 72, 73, 74, 75, 76, 77, 78, 79, 80, 81, 82, 83, 84, 85, 86, 87] [nv 6 [z8.val], nv 6 [z10.val], nv 6 [z12.val], nv 6 [z9.val], nv 6 [z7.val], nv 6 [z13.val], nv 6 [z14.val], nv 6 [z11.val], nv 6 [z10.val], nv 6 [z15.val], nv 6 [z2.val], nv 6 [z7.val], nv 6 [z16.val], nv 6 [z17.val], nv 6 [z9.val], nv 6 [z11.val], nv 6 [z18.val], nv 6 [z2.val], nv 6 [z8.val], nv 6 [z19.val], nv 6 [z20.val], sv [.n 6 z14.val, .n 6 z17.val, .n 6 z20.val]] ?_ ?_
  · refine latl 0 1 flFp A49 ?_
    refine latl 0 1 flFp A51 ?_
    refine latk Try.call33 (fun w h => fpMul_e z8 z10 z12 rfl rfl ez12 _) ?_
    refine latl 0 1 flFp A50 ?_
    refine latl 0 1 flFp A48 ?_
    refine latk Try.call33 (fun w h => fpMul_e z9 z7 z13 rfl rfl ez13 _) ?_
    refine latk Try.call46 (fun w h => fpSub_e z12 z13 z14 rfl rfl ez14 _) ?_
    refine latl 0 1 flFp A52 ?_
    refine latl 0 1 flFp A51 ?_
    refine latk Try.call33 (fun w h => fpMul_e z11 z10 z15 rfl rfl ez15 _) ?_
    refine latl 0 1 flFp A45 ?_
    refine latl 0 1 flFp A48 ?_
    refine latk Try.call33 (fun w h => fpMul_e z2 z7 z16 rfl rfl ez16 _) ?_
    refine latk Try.call34 (fun w h => fpAdd_e z15 z16 z17 rfl rfl ez17 _) ?_
    refine latl 0 1 flFp A50 ?_
    refine latl 0 1 flFp A52 ?_
    refine latk Try.call33 (fun w h => fpMul_e z9 z11 z18 rfl rfl ez18 _) ?_
    refine latl 0 1 flFp A45 ?_
    refine latl 0 1 flFp A49 ?_
    refine latk Try.call33 (fun w h => fpMul_e z2 z8 z19 rfl rfl ez19 _) ?_
    refine latk Try.call34 (fun w h => fpAdd_e z18 z19 z20 rfl rfl ez20 _) ?_
    refine latv (fun γ w h => ex_builds stPG1 (l := [.n 6 z14.val, .n 6 z17.val, .n 6 z20.val]) (vs := [(0, nv 6 [z14.val]), (1, nv 6 [z17.val]), (2, nv 6 [z20.val])]) rfl ((fills_cons 0 1 (m := [.n 6 z14.val]) (z' := [.n 6 z14.val, .n 6 0, .n 6 0]) rfl (nv_cells 6 [z14.val]) rfl rfl rfl rfl).trans ((fills_cons 1 1 (m := [.n 6 z17.val]) (z' := [.n 6 z14.val, .n 6 z17.val, .n 6 0]) rfl (nv_cells 6 [z17.val]) rfl rfl rfl rfl).trans ((fills_cons 2 1 (m := [.n 6 z20.val]) (z' := [.n 6 z14.val, .n 6 z17.val, .n 6 z20.val]) rfl (nv_cells 6 [z20.val]) rfl rfl rfl rfl).trans rfl)))) ?_
    exact latq 0 3 flPG1.2 A44 .nil
  intro w54 w54_ hb54 hs54 HB78
  have A57 := A44.keep hb54.out
  have A69 := hs54.here 0 3 (l' := [.n 6 z14.val, .n 6 z17.val, .n 6 z20.val]) A57 rfl rfl rfl
  exact wpr (ret1 Try.results26 (res_sv rfl A69 flPG1 rfl)) HB78
theorem onetwice_q {s u : Tri Zp} (hu : u = twiceT (12 : Zp) s) : CI 42 #[sv [.n 6 s.x.val, .n 6 s.y.val, .n 6 s.z.val]] (sv [.n 6 u.x.val, .n 6 u.y.val, .n 6 u.z.val]) := fun w => by
  obtain ⟨z1, ez1⟩ := nm (s.y * s.y : Zp)
  obtain ⟨z2, ez2⟩ := nm (s.z * s.z : Zp)
  obtain ⟨z3, ez3⟩ := nm (((12 : Zp)) * z2 : Zp)
  obtain ⟨z4, ez4⟩ := nm (3 * z3 : Zp)
  obtain ⟨z5, ez5⟩ := nm (z1 - z4 : Zp)
  obtain ⟨z6, ez6⟩ := nm (z1 + z3 : Zp)
  obtain ⟨z7, ez7⟩ := nm (((8 : Zp)) * z1 : Zp)
  obtain ⟨z8, ez8⟩ := nm (s.x * s.y : Zp)
  obtain ⟨z9, ez9⟩ := nm (2 * z8 : Zp)
  obtain ⟨z10, ez10⟩ := nm (z9 * z5 : Zp)
  obtain ⟨z11, ez11⟩ := nm (z6 * z5 : Zp)
  obtain ⟨z12, ez12⟩ := nm (z7 * z3 : Zp)
  obtain ⟨z13, ez13⟩ := nm (z11 + z12 : Zp)
  obtain ⟨z14, ez14⟩ := nm (s.y * s.z : Zp)
  obtain ⟨z15, ez15⟩ := nm (z7 * z14 : Zp)
  have E : twiceT (12 : Zp) s = ⟨z10, z13, z15⟩ := by subst ez15 ez14 ez13 ez12 ez11 ez10 ez9 ez8 ez7 ez6 ez5 ez4 ez3 ez2 ez1; rfl
  rw [hu, E]
  go_enter Try.func42, Try.ntmps42
  refine rh2 (brf w) 56 0 [.n 6 s.x.val, .n 6 s.y.val, .n 6 s.z.val] 56 1 [.n 6 0, .n 6 0, .n 6 0] [1, 2] (fun γ => [pz (γ 0), pz (γ 1)]) ?_ ?_
  · refine stpb 0 (fun γ w h => ex_boxs (l := [.n 6 s.x.val, .n 6 s.y.val, .n 6 s.z.val]) rfl) ?_
    exact stpb 1 (fun γ w h => ex_allocs (l := [.n 6 0, .n 6 0, .n 6 0]) zPG1) .nil
  intro γ1 w1 hb1 A2 A3 _ le3 hn1 HB4
  refine rhc HB4 [(26, 12, 14, [.n 6 0], [.n 6 z1.val]), (26, 13, 15, [.n 6 0], [.n 6 z3.val])] [8, 9, 10, 11, 12, 13, 14, 15, 16, 17, 18, 19, 3, 4] (fun γ => [pq (γ1 0) 6, nv 6 [s.y.val], pq (γ1 0) 6, nv 6 [s.y.val], nv 6 [z1.val], nv 6 [12], pq (γ1 0) 12, nv 6 [s.z.val], pq (γ1 0) 12, nv 6 [s.z.val], nv 6 [z2.val], nv 6 [z3.val], pz (γ 0), pz (γ 1)]) ?_ ?_
  · refine stpx (fun _ _ => ex_field faPG1_1 rfl) ?_
    refine stpl 1 1 flFp A2 ?_
    refine stpx (fun _ _ => ex_field faPG1_1 rfl) ?_
    refine stpl 1 1 flFp A2 ?_
    refine stpk Try.call33 (fun w h => fpMul_e s.y s.y z1 rfl rfl ez1 _) ?_
    refine stpx (fun _ _ => ex_limb6 (e := 12) (by decide) rfl) ?_
    refine stpx (fun _ _ => ex_field faPG1_2 rfl) ?_
    refine stpl 2 1 flFp A2 ?_
    refine stpx (fun _ _ => ex_field faPG1_2 rfl) ?_
    refine stpl 2 1 flFp A2 ?_
    refine stpk Try.call33 (fun w h => fpMul_e s.z s.z z2 rfl rfl ez2 _) ?_
    refine stpc (nv 6 [z3.val]) (fun γ w => ex_call (vs := [nv 6 [12], nv 6 [z2.val]]) rfl Try.call33 rfl) (fun w h => fpMul_e ((12 : Zp)) z2 z3 (zc 12 (small_P (by decide))) rfl ez3 _) ?_
    refine stpn 0 (fun γ w => ex_allocsn (K := 6) (l := [0]) zFp) ?_
    refine stpn 1 (fun γ w => ex_allocsn (K := 6) (l := [0]) zFp) ?_
    refine stpo 0 0 1 flFp.2 (nv_cells 6 [z1.val]) ?_
    exact stpo 1 0 1 flFp.2 (nv_cells 6 [z3.val]) .nil
  intro γ5 w5 hb5 hB5 hn5 HB10
  have A6 := A2.keep hb5.out
  have A7 := A3.keep hb5.out
  have A8 : SB 26 w5 (γ5 0) [.n 6 z1.val] := (hB5 0 rfl).2
  have A9 : SB 26 w5 (γ5 1) [.n 6 z3.val] := (hB5 1 rfl).2
  refine rhc HB10 [(26, 7, 9, [.n 6 0], [.n 6 z5.val]), (26, 8, 10, [.n 6 0], [.n 6 z6.val])] [20, 21, 22, 23, 24, 25, 26, 5, 6] (fun γ => [nv 6 [z1.val], nv 6 [z3.val], nv 6 [z4.val], nv 6 [z5.val], nv 6 [z1.val], nv 6 [z3.val], nv 6 [z6.val], pz (γ 0), pz (γ 1)]) ?_ ?_
  · refine stpl 0 1 flFp A8 ?_
    refine stpl 0 1 flFp A9 ?_
    refine stpk Try.call44 (fun w h => onethreefold_e z3 z4 rfl ez4 _) ?_
    refine stpk Try.call46 (fun w h => fpSub_e z1 z4 z5 rfl rfl ez5 _) ?_
    refine stpl 0 1 flFp A8 ?_
    refine stpl 0 1 flFp A9 ?_
    refine stpk Try.call34 (fun w h => fpAdd_e z1 z3 z6 rfl rfl ez6 _) ?_
    refine stpn 0 (fun γ w => ex_allocsn (K := 6) (l := [0]) zFp) ?_
    refine stpn 1 (fun γ w => ex_allocsn (K := 6) (l := [0]) zFp) ?_
    refine stpo 0 0 1 flFp.2 (nv_cells 6 [z5.val]) ?_
    exact stpo 1 0 1 flFp.2 (nv_cells 6 [z6.val]) .nil
  intro γ11 w11 hb11 hB11 hn11 HB18
  have A12 := A6.keep hb11.out
  have A13 := A7.keep hb11.out
  have A14 := A8.keep hb11.out
  have A15 := A9.keep hb11.out
  have A16 : SB 26 w11 (γ11 0) [.n 6 z5.val] := (hB11 0 rfl).2
  have A17 : SB 26 w11 (γ11 1) [.n 6 z6.val] := (hB11 1 rfl).2
  refine rhc HB18 [(26, 3, 4, [.n 6 0], [.n 6 z7.val])] [27, 28, 29, 7] (fun γ => [nv 6 [8], nv 6 [z1.val], nv 6 [z7.val], pz (γ 0)]) ?_ ?_
  · refine stpx (fun _ _ => ex_limb6 (e := 8) (by decide) rfl) ?_
    refine stpl 0 1 flFp A14 ?_
    refine stpc (nv 6 [z7.val]) (fun γ w => ex_call (vs := [nv 6 [8], nv 6 [z1.val]]) rfl Try.call33 rfl) (fun w h => fpMul_e ((8 : Zp)) z1 z7 (zc 8 (small_P (by decide))) rfl ez7 _) ?_
    refine stpn 0 (fun γ w => ex_allocsn (K := 6) (l := [0]) zFp) ?_
    exact stpo 0 0 1 flFp.2 (nv_cells 6 [z7.val]) .nil
  intro γ19 w19 hb19 hB19 _ HB27
  have A20 := A12.keep hb19.out
  have A21 := A13.keep hb19.out
  have A23 := A15.keep hb19.out
  have A24 := A16.keep hb19.out
  have A25 := A17.keep hb19.out
  have A26 : SB 26 w19 (γ19 0) [.n 6 z7.val] := (hB19 0 rfl).2
  refine rhs HB27 le3 23 0 [.n 6 z10.val, .n 6 z13.val, .n 6 z15.val] [30, 31, 32, 33, 34, 35, 36, 37, 38, 39, 40, 41, 42, 43, 44, 45, 46, 47, 48, 49, 50, 51, 52] [pz (γ1 0), nv 6 [s.x.val], pq (γ1 0) 6, nv 6 [s.y.val], nv 6 [z8.val], nv 6 [z9.val], nv 6 [z5.val], nv 6 [z10.val], nv 6 [z6.val], nv 6 [z5.val], nv 6 [z11.val], nv 6 [z7.val], nv 6 [z3.val], nv 6 [z12.val], nv 6 [z13.val], nv 6 [z7.val], pq (γ1 0) 6, nv 6 [s.y.val], pq (γ1 0) 12, nv 6 [s.z.val], nv 6 [z14.val], nv 6 [z15.val], sv [.n 6 z10.val, .n 6 z13.val, .n 6 z15.val]] ?_ ?_
  · refine latv (fun γ w h => ex_field faPG1_0 rfl) ?_
    refine latl 0 1 flFp A20 ?_
    refine latv (fun γ w h => ex_field faPG1_1 rfl) ?_
    refine latl 1 1 flFp A20 ?_
    refine latk Try.call33 (fun w h => fpMul_e s.x s.y z8 rfl rfl ez8 _) ?_
    refine latk Try.call70 (fun w h => onetwofold_e z8 z9 rfl ez9 _) ?_
    refine latl 0 1 flFp A24 ?_
    refine latk Try.call33 (fun w h => fpMul_e z9 z5 z10 rfl rfl ez10 _) ?_
    refine latl 0 1 flFp A25 ?_
    refine latl 0 1 flFp A24 ?_
    refine latk Try.call33 (fun w h => fpMul_e z6 z5 z11 rfl rfl ez11 _) ?_
    refine latl 0 1 flFp A26 ?_
    refine latl 0 1 flFp A23 ?_
    refine latk Try.call33 (fun w h => fpMul_e z7 z3 z12 rfl rfl ez12 _) ?_
    refine latk Try.call34 (fun w h => fpAdd_e z11 z12 z13 rfl rfl ez13 _) ?_
    refine latl 0 1 flFp A26 ?_
    refine latv (fun γ w h => ex_field faPG1_1 rfl) ?_
    refine latl 1 1 flFp A20 ?_
    refine latv (fun γ w h => ex_field faPG1_2 rfl) ?_
    refine latl 2 1 flFp A20 ?_
    refine latk Try.call33 (fun w h => fpMul_e s.y s.z z14 rfl rfl ez14 _) ?_
    refine latk Try.call33 (fun w h => fpMul_e z7 z14 z15 rfl rfl ez15 _) ?_
    refine latv (fun γ w h => ex_builds stPG1 (l := [.n 6 z10.val, .n 6 z13.val, .n 6 z15.val]) (vs := [(0, nv 6 [z10.val]), (1, nv 6 [z13.val]), (2, nv 6 [z15.val])]) rfl ((fills_cons 0 1 (m := [.n 6 z10.val]) (z' := [.n 6 z10.val, .n 6 0, .n 6 0]) rfl (nv_cells 6 [z10.val]) rfl rfl rfl rfl).trans ((fills_cons 1 1 (m := [.n 6 z13.val]) (z' := [.n 6 z10.val, .n 6 z13.val, .n 6 0]) rfl (nv_cells 6 [z13.val]) rfl rfl rfl rfl).trans ((fills_cons 2 1 (m := [.n 6 z15.val]) (z' := [.n 6 z10.val, .n 6 z13.val, .n 6 z15.val]) rfl (nv_cells 6 [z15.val]) rfl rfl rfl rfl).trans rfl)))) ?_
    exact latq 0 3 flPG1.2 A21 .nil
  intro w28 w28_ hb28 hs28 HB44
  have A30 := A21.keep hb28.out
  have A38 := hs28.here 0 3 (l' := [.n 6 z10.val, .n 6 z13.val, .n 6 z15.val]) A30 rfl rfl rfl
  exact wpr (ret1 Try.results42 (res_sv rfl A38 flPG1 rfl)) HB44
theorem oneZero_v : CI 10 #[] (sv [.n 6 0, .n 6 0, .b true]) := fun w => by
  go_enter Try.func10, Try.ntmps10
  refine rh1 (brf w) 28 0 [.n 6 0, .n 6 0, .b false] [0] (fun γ => [pz (γ 0)]) ?_ ?_
  · exact stpb 0 (fun γ w h => ex_allocs (l := [.n 6 0, .n 6 0, .b false]) zG1) .nil
  intro γ1 w1 hb1 A2 le2 HB3
  refine rhs HB3 le2 1 0 [.n 6 0, .n 6 0, .b true] [1] [sv [.n 6 0, .n 6 0, .b true]] ?_ ?_
  · refine latv (fun γ w h => ex_builds stG1 (l := [.n 6 0, .n 6 0, .b true]) (vs := [(2, .bool true)]) rfl ((fills_cons 2 1 (m := [.b true]) (z' := [.n 6 0, .n 6 0, .b true]) rfl (bool_cells true) rfl rfl rfl rfl).trans rfl)) ?_
    exact latq 0 3 flG1.2 A2 .nil
  intro w4 w4_ hb4 hs4 HB8
  have A5 := A2.keep hb4.out
  have A7 := hs4.here 0 3 (l' := [.n 6 0, .n 6 0, .b true]) A5 rfl rfl rfl
  exact wpr (ret1 Try.results10 (res_sv rfl A7 flG1 rfl)) HB8
theorem onenowhere_v : CI 40 #[] (sv [.n 6 0, .n 6 1, .n 6 0]) := fun w => by
  go_enter Try.func40, Try.ntmps40
  refine rh1 (brf w) 56 0 [.n 6 0, .n 6 0, .n 6 0] [0] (fun γ => [pz (γ 0)]) ?_ ?_
  · exact stpb 0 (fun γ w h => ex_allocs (l := [.n 6 0, .n 6 0, .n 6 0]) zPG1) .nil
  intro γ1 w1 hb1 A2 le2 HB3
  refine rhs HB3 le2 2 0 [.n 6 0, .n 6 1, .n 6 0] [1, 2] [nv 6 [1], sv [.n 6 0, .n 6 1, .n 6 0]] ?_ ?_
  · refine latv (fun γ w h => ex_one rfl) ?_
    refine latv (fun γ w h => ex_builds stPG1 (l := [.n 6 0, .n 6 1, .n 6 0]) (vs := [(1, nv 6 [1])]) rfl ((fills_cons 1 1 (m := [.n 6 1]) (z' := [.n 6 0, .n 6 1, .n 6 0]) rfl (nv_cells 6 [1]) rfl rfl rfl rfl).trans rfl)) ?_
    exact latq 0 3 flPG1.2 A2 .nil
  intro w4 w4_ hb4 hs4 HB8
  have A5 := A2.keep hb4.out
  have A7 := hs4.here 0 3 (l' := [.n 6 0, .n 6 1, .n 6 0]) A5 rfl rfl rfl
  exact wpr (ret1 Try.results40 (res_sv rfl A7 flPG1 rfl)) HB8
theorem onenowhere_t : sv [.n 6 0, .n 6 1, .n 6 0] = sv [.n 6 ((0 : Zp).val), .n 6 ((1 : Zp).val), .n 6 ((0 : Zp).val)] := by
  have h0 := zc0
  have h1 := zc1
  simp only [List.cons.injEq, and_true] at h0 h1
  rw [← h0, ← h1]
theorem onebring_inf : CI 22 #[sv [.n 6 0, .n 6 0, .b true]] (sv [.n 6 0, .n 6 1, .n 6 0]) := fun w => by
  go_enter Try.func22, Try.ntmps22
  refine rh2 (brf w) 28 0 [.n 6 0, .n 6 0, .b true] 56 1 [.n 6 0, .n 6 0, .n 6 0] [1, 2] (fun γ => [pz (γ 0), pz (γ 1)]) ?_ ?_
  · refine stpb 0 (fun γ w h => ex_boxs (l := [.n 6 0, .n 6 0, .b true]) rfl) ?_
    exact stpb 1 (fun γ w h => ex_allocs (l := [.n 6 0, .n 6 0, .n 6 0]) zPG1) .nil
  intro γ1 w1 hb1 A2 A3 _ le3 hn1 HB4
  refine wp_seq ?_
  refine rh0 HB4 [3, 4] [pq (γ1 0) 12, .bool true] ?_ ?_
  · refine stpx (fun _ _ => ex_field faG1_2 rfl) ?_
    exact stpv (fun γ w h => ex_load1 2 (s := .b true) (v := .bool true) sgBool rfl (A2.keep h.out) rfl rfl rfl) .nil
  intro w5 hb5 HB8
  have A7 := A3.keep hb5.out
  refine wp_cond_true rfl ?_
  refine rhs HB8 le3 1 0 [.n 6 0, .n 6 1, .n 6 0] [5] [sv [.n 6 0, .n 6 1, .n 6 0]] ?_ ?_
  · refine latk Try.call40 (fun w h => onenowhere_v _) ?_
    exact latq 0 3 flPG1.2 A7 .nil
  intro w9 w9_ hb9 hs9 HB15
  have A11 := A7.keep hb9.out
  have A14 := hs9.here 0 3 (l' := [.n 6 0, .n 6 1, .n 6 0]) A11 rfl rfl rfl
  exact wprt (ret1 Try.results22 (res_sv rfl A14 flPG1 rfl)) HB15
theorem onebring_aff (x y : Zp) : CI 22 #[sv [.n 6 x.val, .n 6 y.val, .b false]] (sv [.n 6 x.val, .n 6 y.val, .n 6 1]) := fun w => by
  go_enter Try.func22, Try.ntmps22
  refine rh2 (brf w) 28 0 [.n 6 x.val, .n 6 y.val, .b false] 56 1 [.n 6 0, .n 6 0, .n 6 0] [1, 2] (fun γ => [pz (γ 0), pz (γ 1)]) ?_ ?_
  · refine stpb 0 (fun γ w h => ex_boxs (l := [.n 6 x.val, .n 6 y.val, .b false]) rfl) ?_
    exact stpb 1 (fun γ w h => ex_allocs (l := [.n 6 0, .n 6 0, .n 6 0]) zPG1) .nil
  intro γ1 w1 hb1 A2 A3 _ le3 hn1 HB4
  refine wp_seq ?_
  refine rh0 HB4 [3, 4] [pq (γ1 0) 12, .bool false] ?_ ?_
  · refine stpx (fun _ _ => ex_field faG1_2 rfl) ?_
    exact stpv (fun γ w h => ex_load1 2 (s := .b false) (v := .bool false) sgBool rfl (A2.keep h.out) rfl rfl rfl) .nil
  intro w5 hb5 HB8
  have A6 := A2.keep hb5.out
  have A7 := A3.keep hb5.out
  refine wp_cond_false rfl ?_
  refine wp_skip ?_
  refine th_r ?_
  refine rhs HB8 le3 6 0 [.n 6 x.val, .n 6 y.val, .n 6 1] [6, 7, 8, 9, 10, 11] [pz (γ1 0), nv 6 [x.val], pq (γ1 0) 6, nv 6 [y.val], nv 6 [1], sv [.n 6 x.val, .n 6 y.val, .n 6 1]] ?_ ?_
  · refine latv (fun γ w h => ex_field faG1_0 rfl) ?_
    refine latl 0 1 flFp A6 ?_
    refine latv (fun γ w h => ex_field faG1_1 rfl) ?_
    refine latl 1 1 flFp A6 ?_
    refine latv (fun γ w h => ex_one rfl) ?_
    refine latv (fun γ w h => ex_builds stPG1 (l := [.n 6 x.val, .n 6 y.val, .n 6 1]) (vs := [(0, nv 6 [x.val]), (1, nv 6 [y.val]), (2, nv 6 [1])]) rfl ((fills_cons 0 1 (m := [.n 6 x.val]) (z' := [.n 6 x.val, .n 6 0, .n 6 0]) rfl (nv_cells 6 [x.val]) rfl rfl rfl rfl).trans ((fills_cons 1 1 (m := [.n 6 y.val]) (z' := [.n 6 x.val, .n 6 y.val, .n 6 0]) rfl (nv_cells 6 [y.val]) rfl rfl rfl rfl).trans ((fills_cons 2 1 (m := [.n 6 1]) (z' := [.n 6 x.val, .n 6 y.val, .n 6 1]) rfl (nv_cells 6 [1]) rfl rfl rfl rfl).trans rfl)))) ?_
    exact latq 0 3 flPG1.2 A7 .nil
  intro w9 w9_ hb9 hs9 HB15
  have A11 := A7.keep hb9.out
  have A14 := hs9.here 0 3 (l' := [.n 6 x.val, .n 6 y.val, .n 6 1]) A11 rfl rfl rfl
  exact wpr (ret1 Try.results22 (res_sv rfl A14 flPG1 rfl)) HB15
def oneTri : Pt Zp → Tri Zp
  | .inf => ⟨0, 1, 0⟩
  | .aff x y => ⟨x, y, 1⟩
theorem oneTri_is (P : Pt Zp) : (oneTri P).Is P := by
  cases P with
  | inf => exact ⟨rfl, rfl, one_ne FdP⟩
  | aff x y => exact ⟨by show x = x * 1; grind, by show y = y * 1; grind, one_ne FdP⟩
theorem onebring_q (P : Pt Zp) : CI 22 #[sv [.n 6 (ax P), .n 6 (ay P), .b (ai P)]] (sv [.n 6 (((oneTri P).x).val), .n 6 (((oneTri P).y).val), .n 6 (((oneTri P).z).val)]) := fun w => by
  cases P with
  | inf =>
    have h := onebring_inf w
    rw [onenowhere_t] at h
    exact h
  | aff x y =>
    have h := onebring_aff x y w
    have h1 := zc1
    simp only [List.cons.injEq, and_true] at h1
    rw [h1] at h
    exact h
theorem oneback_inf (t : Tri Zp) (hz : t.z = 0) : CI 24 #[sv [.n 6 t.x.val, .n 6 t.y.val, .n 6 t.z.val]] (sv [.n 6 0, .n 6 0, .b true]) := fun w => by
  go_enter Try.func24, Try.ntmps24
  refine rh2 (brf w) 56 0 [.n 6 t.x.val, .n 6 t.y.val, .n 6 t.z.val] 28 1 [.n 6 0, .n 6 0, .b false] [1, 2] (fun γ => [pz (γ 0), pz (γ 1)]) ?_ ?_
  · refine stpb 0 (fun γ w h => ex_boxs (l := [.n 6 t.x.val, .n 6 t.y.val, .n 6 t.z.val]) rfl) ?_
    exact stpb 1 (fun γ w h => ex_allocs (l := [.n 6 0, .n 6 0, .b false]) zG1) .nil
  intro γ1 w1 hb1 A2 A3 _ le3 hn1 HB4
  refine wp_seq ?_
  refine rh0 HB4 [4, 5, 6, 7] [pq (γ1 0) 12, nv 6 [t.z.val], nv 6 [0], .bool true] ?_ ?_
  · refine stpx (fun _ _ => ex_field faPG1_2 rfl) ?_
    refine stpl 2 1 flFp A2 ?_
    refine stpx (fun _ _ => ex_zero) ?_
    exact stpx (fun _ _ => ex_eqz t.z ((0 : Zp)) rfl zc0 rfl rfl true ⟨fun _ => hz, fun _ => rfl⟩) .nil
  intro w5 hb5 HB8
  have A7 := A3.keep hb5.out
  refine wp_cond_true rfl ?_
  refine rhs HB8 le3 1 0 [.n 6 0, .n 6 0, .b true] [8] [sv [.n 6 0, .n 6 0, .b true]] ?_ ?_
  · refine latk Try.call10 (fun w h => oneZero_v _) ?_
    exact latq 0 3 flG1.2 A7 .nil
  intro w9 w9_ hb9 hs9 HB15
  have A11 := A7.keep hb9.out
  have A14 := hs9.here 0 3 (l' := [.n 6 0, .n 6 0, .b true]) A11 rfl rfl rfl
  exact wprt (ret1 Try.results24 (res_sv rfl A14 flG1 rfl)) HB15
theorem oneback_aff (t : Tri Zp) (hz : t.z ≠ 0) (x y : Zp) (hx : x = t.x * FdP.inv t.z) (hy : y = t.y * FdP.inv t.z) : CI 24 #[sv [.n 6 t.x.val, .n 6 t.y.val, .n 6 t.z.val]] (sv [.n 6 x.val, .n 6 y.val, .b false]) := fun w => by
  obtain ⟨z1, ez1⟩ := nm (FdP.inv t.z : Zp)
  obtain ⟨z2, ez2⟩ := nm (t.x * z1 : Zp)
  obtain ⟨z3, ez3⟩ := nm (t.y * z1 : Zp)
  obtain rfl : z2 = x := by rw [hx, ez2, ez1]
  obtain rfl : z3 = y := by rw [hy, ez3, ez1]
  go_enter Try.func24, Try.ntmps24
  refine rh2 (brf w) 56 0 [.n 6 t.x.val, .n 6 t.y.val, .n 6 t.z.val] 28 1 [.n 6 0, .n 6 0, .b false] [1, 2] (fun γ => [pz (γ 0), pz (γ 1)]) ?_ ?_
  · refine stpb 0 (fun γ w h => ex_boxs (l := [.n 6 t.x.val, .n 6 t.y.val, .n 6 t.z.val]) rfl) ?_
    exact stpb 1 (fun γ w h => ex_allocs (l := [.n 6 0, .n 6 0, .b false]) zG1) .nil
  intro γ1 w1 hb1 A2 A3 _ le3 hn1 HB4
  refine wp_seq ?_
  refine rh0 HB4 [4, 5, 6, 7] [pq (γ1 0) 12, nv 6 [t.z.val], nv 6 [0], .bool false] ?_ ?_
  · refine stpx (fun _ _ => ex_field faPG1_2 rfl) ?_
    refine stpl 2 1 flFp A2 ?_
    refine stpx (fun _ _ => ex_zero) ?_
    exact stpx (fun _ _ => ex_eqz t.z ((0 : Zp)) rfl zc0 rfl rfl false ⟨fun e => Bool.noConfusion e, fun e => absurd e hz⟩) .nil
  intro w5 hb5 HB8
  have A6 := A2.keep hb5.out
  have A7 := A3.keep hb5.out
  refine wp_cond_false rfl ?_
  refine wp_skip ?_
  refine th_r ?_
  refine rhc HB8 [(26, 3, 4, [.n 6 0], [.n 6 z1.val])] [9, 10, 11, 3] (fun γ => [pq (γ1 0) 12, nv 6 [t.z.val], nv 6 [z1.val], pz (γ 0)]) ?_ ?_
  · refine stpx (fun _ _ => ex_field faPG1_2 rfl) ?_
    refine stpl 2 1 flFp A6 ?_
    refine stpk Try.call43 (fun w h => fpInv_e t.z z1 rfl ez1 _) ?_
    refine stpn 0 (fun γ w => ex_allocsn (K := 6) (l := [0]) zFp) ?_
    exact stpo 0 0 1 flFp.2 (nv_cells 6 [z1.val]) .nil
  intro γ9 w9 hb9 hB9 _ HB13
  have A10 := A6.keep hb9.out
  have A11 := A7.keep hb9.out
  have A12 : SB 26 w9 (γ9 0) [.n 6 z1.val] := (hB9 0 rfl).2
  refine rhs HB13 le3 9 0 [.n 6 z2.val, .n 6 z3.val, .b false] [12, 13, 14, 15, 16, 17, 18, 19, 20] [pz (γ1 0), nv 6 [t.x.val], nv 6 [z1.val], nv 6 [z2.val], pq (γ1 0) 6, nv 6 [t.y.val], nv 6 [z1.val], nv 6 [z3.val], sv [.n 6 z2.val, .n 6 z3.val, .b false]] ?_ ?_
  · refine latv (fun γ w h => ex_field faPG1_0 rfl) ?_
    refine latl 0 1 flFp A10 ?_
    refine latl 0 1 flFp A12 ?_
    refine latk Try.call33 (fun w h => fpMul_e t.x z1 z2 rfl rfl ez2 _) ?_
    refine latv (fun γ w h => ex_field faPG1_1 rfl) ?_
    refine latl 1 1 flFp A10 ?_
    refine latl 0 1 flFp A12 ?_
    refine latk Try.call33 (fun w h => fpMul_e t.y z1 z3 rfl rfl ez3 _) ?_
    refine latv (fun γ w h => ex_builds stG1 (l := [.n 6 z2.val, .n 6 z3.val, .b false]) (vs := [(0, nv 6 [z2.val]), (1, nv 6 [z3.val])]) rfl ((fills_cons 0 1 (m := [.n 6 z2.val]) (z' := [.n 6 z2.val, .n 6 0, .b false]) rfl (nv_cells 6 [z2.val]) rfl rfl rfl rfl).trans ((fills_cons 1 1 (m := [.n 6 z3.val]) (z' := [.n 6 z2.val, .n 6 z3.val, .b false]) rfl (nv_cells 6 [z3.val]) rfl rfl rfl rfl).trans rfl))) ?_
    exact latq 0 3 flG1.2 A11 .nil
  intro w14 w14_ hb14 hs14 HB22
  have A16 := A11.keep hb14.out
  have A20 := hs14.here 0 3 (l' := [.n 6 z2.val, .n 6 z3.val, .b false]) A16 rfl rfl rfl
  exact wpr (ret1 Try.results24 (res_sv rfl A20 flG1 rfl)) HB22
theorem oneback_q {t : Tri Zp} {P : Pt Zp} (h : t.Is P) : CI 24 #[sv [.n 6 t.x.val, .n 6 t.y.val, .n 6 t.z.val]] (sv [.n 6 (ax P), .n 6 (ay P), .b (ai P)]) := fun w => by
  rcases back_ok FdP h with ⟨h1, rfl⟩ | ⟨h1, hP⟩
  · exact oneback_inf t h1 w
  · obtain ⟨x, hx⟩ : ∃ x, x = t.x * FdP.inv t.z := ⟨_, rfl⟩
    obtain ⟨y, hy⟩ : ∃ y, y = t.y * FdP.inv t.z := ⟨_, rfl⟩
    rw [← hx, ← hy] at hP
    subst hP
    exact oneback_aff t h1 x y hx hy w
theorem oneRight_inf : CI 6 #[sv [.n 6 0, .n 6 0, .b true]] (.bool true) := fun w => by
  go_enter Try.func6, Try.ntmps6
  refine rh1 (brf w) 28 0 [.n 6 0, .n 6 0, .b true] [1, 2] (fun γ => [pz (γ 0), .bool false]) ?_ ?_
  · refine stpb 0 (fun γ w h => ex_boxs (l := [.n 6 0, .n 6 0, .b true]) rfl) ?_
    exact stpa .nil
  intro γ1 w1 hb1 A2 _ HB3
  refine wp_seq ?_
  refine rh0 HB3 [3, 4] [pq (γ1 0) 12, .bool true] ?_ ?_
  · refine stpx (fun _ _ => ex_field faG1_2 rfl) ?_
    exact stpv (fun γ w h => ex_load1 2 (s := .b true) (v := .bool true) sgBool rfl (A2.keep h.out) rfl rfl rfl) .nil
  intro w4 hb4 HB6
  have A5 := A2.keep hb4.out
  refine wp_cond_true rfl ?_
  refine rh0 HB6 [5, 6, 7, 2] [sv [.n 6 0, .n 6 0, .b true], sv [.n 6 0, .n 6 0, .b true], .bool true, .bool true] ?_ ?_
  · refine stpv (fun γ w h => ex_loads 0 3 (m := [.n 6 0, .n 6 0, .b true]) flG1 rfl rfl (A5.keep h.out) rfl rfl) ?_
    refine stpk Try.call10 (fun w h => oneZero_v _) ?_
    refine stpx (fun _ _ => ex_eqs gdG1 eqG1 rfl rfl rfl (shG1_of zero_B zero_B) (shG1_of zero_B zero_B) true (by simp)) ?_
    exact stpa .nil
  intro w7 hb7 HB9
  exact wprt (ret1 Try.results6 (res_tmp rfl)) HB9
theorem oneRight_rawinf (x : Nat) (y : Nat) (hx : x < fpB) (hy : y < fpB) (h0 : ¬ (x = 0 ∧ y = 0)) : CI 6 #[sv [.n 6 x, .n 6 y, .b true]] (.bool false) := fun w => by
  go_enter Try.func6, Try.ntmps6
  refine rh1 (brf w) 28 0 [.n 6 x, .n 6 y, .b true] [1, 2] (fun γ => [pz (γ 0), .bool false]) ?_ ?_
  · refine stpb 0 (fun γ w h => ex_boxs (l := [.n 6 x, .n 6 y, .b true]) rfl) ?_
    exact stpa .nil
  intro γ1 w1 hb1 A2 _ HB3
  refine wp_seq ?_
  refine rh0 HB3 [3, 4] [pq (γ1 0) 12, .bool true] ?_ ?_
  · refine stpx (fun _ _ => ex_field faG1_2 rfl) ?_
    exact stpv (fun γ w h => ex_load1 2 (s := .b true) (v := .bool true) sgBool rfl (A2.keep h.out) rfl rfl rfl) .nil
  intro w4 hb4 HB6
  have A5 := A2.keep hb4.out
  refine wp_cond_true rfl ?_
  refine rh0 HB6 [5, 6, 7, 2] [sv [.n 6 x, .n 6 y, .b true], sv [.n 6 0, .n 6 0, .b true], .bool false, .bool false] ?_ ?_
  · refine stpv (fun γ w h => ex_loads 0 3 (m := [.n 6 x, .n 6 y, .b true]) flG1 rfl rfl (A5.keep h.out) rfl rfl) ?_
    refine stpk Try.call10 (fun w h => oneZero_v _) ?_
    refine stpx (fun _ _ => ex_eqs gdG1 eqG1 rfl rfl rfl (shG1_of hx hy) (shG1_of zero_B zero_B) false ⟨fun e => Bool.noConfusion e, fun e => absurd (by simpa using e) h0⟩) ?_
    exact stpa .nil
  intro w7 hb7 HB9
  exact wprt (ret1 Try.results6 (res_tmp rfl)) HB9
theorem oneRight_rawx (x y : Nat) (hx : x < fpB) (h0 : ¬ x < pN) : CI 6 #[sv [.n 6 x, .n 6 y, .b false]] (.bool false) := fun w => by
  go_enter Try.func6, Try.ntmps6
  refine rh1 (brf w) 28 0 [.n 6 x, .n 6 y, .b false] [1, 2] (fun γ => [pz (γ 0), .bool false]) ?_ ?_
  · refine stpb 0 (fun γ w h => ex_boxs (l := [.n 6 x, .n 6 y, .b false]) rfl) ?_
    exact stpa .nil
  intro γ1 w1 hb1 A2 _ HB3
  refine wp_seq ?_
  refine rh0 HB3 [3, 4] [pq (γ1 0) 12, .bool false] ?_ ?_
  · refine stpx (fun _ _ => ex_field faG1_2 rfl) ?_
    exact stpv (fun γ w h => ex_load1 2 (s := .b false) (v := .bool false) sgBool rfl (A2.keep h.out) rfl rfl rfl) .nil
  intro w4 hb4 HB6
  have A5 := A2.keep hb4.out
  refine wp_cond_false rfl ?_
  refine wp_skip ?_
  refine th_r ?_
  refine rh0 HB6 [8, 9, 10, 11, 12, 13, 14, 15, 16, 17, 18, 19, 20, 21, 22, 2] [pz (γ1 0), nv 6 [x], .bool false, .bool false, undef, undef, undef, .bool false, .bool false, undef, undef, undef, undef, undef, .bool false, .bool false] ?_ ?_
  · refine stpx (fun _ _ => ex_field faG1_0 rfl) ?_
    refine stpl 0 1 flFp A5 ?_
    refine stpk Try.call15 (fun w h => fpRight_n x _ hx false (decide_eq_false h0).symm) ?_
    refine stpm ?_
    refine stps ?_
    refine stps ?_
    refine stps ?_
    refine stpx (fun _ _ => ex_pick (r := false) rfl) ?_
    refine stpm ?_
    refine stps ?_
    refine stps ?_
    refine stps ?_
    refine stps ?_
    refine stps ?_
    refine stpx (fun _ _ => ex_pick (r := false) rfl) ?_
    exact stpa .nil
  intro w7 hb7 HB9
  exact wpr (ret1 Try.results6 (res_tmp rfl)) HB9
theorem oneRight_rawy (x y : Nat) (hx : x < fpB) (hy : y < fpB) (h1 : x < pN) (h0 : ¬ y < pN) : CI 6 #[sv [.n 6 x, .n 6 y, .b false]] (.bool false) := fun w => by
  go_enter Try.func6, Try.ntmps6
  refine rh1 (brf w) 28 0 [.n 6 x, .n 6 y, .b false] [1, 2] (fun γ => [pz (γ 0), .bool false]) ?_ ?_
  · refine stpb 0 (fun γ w h => ex_boxs (l := [.n 6 x, .n 6 y, .b false]) rfl) ?_
    exact stpa .nil
  intro γ1 w1 hb1 A2 _ HB3
  refine wp_seq ?_
  refine rh0 HB3 [3, 4] [pq (γ1 0) 12, .bool false] ?_ ?_
  · refine stpx (fun _ _ => ex_field faG1_2 rfl) ?_
    exact stpv (fun γ w h => ex_load1 2 (s := .b false) (v := .bool false) sgBool rfl (A2.keep h.out) rfl rfl rfl) .nil
  intro w4 hb4 HB6
  have A5 := A2.keep hb4.out
  refine wp_cond_false rfl ?_
  refine wp_skip ?_
  refine th_r ?_
  refine rh0 HB6 [8, 9, 10, 11, 12, 13, 14, 15, 16, 17, 18, 19, 20, 21, 22, 2] [pz (γ1 0), nv 6 [x], .bool true, .bool true, pq (γ1 0) 6, nv 6 [y], .bool false, .bool false, .bool false, undef, undef, undef, undef, undef, .bool false, .bool false] ?_ ?_
  · refine stpx (fun _ _ => ex_field faG1_0 rfl) ?_
    refine stpl 0 1 flFp A5 ?_
    refine stpk Try.call15 (fun w h => fpRight_n x _ hx true (decide_eq_true h1).symm) ?_
    refine stpm ?_
    refine stpx (fun _ _ => ex_field faG1_1 rfl) ?_
    refine stpl 1 1 flFp A5 ?_
    refine stpk Try.call15 (fun w h => fpRight_n y _ hy false (decide_eq_false h0).symm) ?_
    refine stpx (fun _ _ => ex_pick (r := true) rfl) ?_
    refine stpm ?_
    refine stps ?_
    refine stps ?_
    refine stps ?_
    refine stps ?_
    refine stps ?_
    refine stpx (fun _ _ => ex_pick (r := false) rfl) ?_
    exact stpa .nil
  intro w7 hb7 HB9
  exact wpr (ret1 Try.results6 (res_tmp rfl)) HB9
theorem onemeets_v (x y : Zp) (r : Bool) (hr : r = true ↔ y * y = x * x * x + 4) : CI 16 #[nv 6 [x.val], nv 6 [y.val]] (.bool r) := fun w => by
  obtain ⟨z1, ez1⟩ := nm (x * x : Zp)
  obtain ⟨z2, ez2⟩ := nm (z1 * x : Zp)
  obtain ⟨z3, ez3⟩ := nm (y * y : Zp)
  obtain ⟨z4, ez4⟩ := nm (z2 + ((4 : Zp)) : Zp)
  go_enter Try.func16, Try.ntmps16
  refine rh2 (brf w) 26 0 [.n 6 x.val] 26 1 [.n 6 y.val] [2, 3, 4] (fun γ => [pz (γ 0), pz (γ 1), .bool false]) ?_ ?_
  · refine stpb 0 (fun γ w h => ex_boxsn (K := 6) (l := [x.val]) rfl) ?_
    refine stpb 1 (fun γ w h => ex_boxsn (K := 6) (l := [y.val]) rfl) ?_
    exact stpa .nil
  intro γ1 w1 hb1 A2 A3 _ _ hn1 HB4
  refine rhc HB4 [(26, 5, 6, [.n 6 0], [.n 6 z2.val])] [6, 7, 8, 9, 10, 5] (fun γ => [nv 6 [x.val], nv 6 [x.val], nv 6 [z1.val], nv 6 [x.val], nv 6 [z2.val], pz (γ 0)]) ?_ ?_
  · refine stpl 0 1 flFp A2 ?_
    refine stpl 0 1 flFp A2 ?_
    refine stpk Try.call33 (fun w h => fpMul_e x x z1 rfl rfl ez1 _) ?_
    refine stpl 0 1 flFp A2 ?_
    refine stpk Try.call33 (fun w h => fpMul_e z1 x z2 rfl rfl ez2 _) ?_
    refine stpn 0 (fun γ w => ex_allocsn (K := 6) (l := [0]) zFp) ?_
    exact stpo 0 0 1 flFp.2 (nv_cells 6 [z2.val]) .nil
  intro γ5 w5 hb5 hB5 _ HB9
  have A7 := A3.keep hb5.out
  have A8 : SB 26 w5 (γ5 0) [.n 6 z2.val] := (hB5 0 rfl).2
  refine rh0 HB9 [11, 12, 13, 14, 15, 16, 17, 4] [nv 6 [y.val], nv 6 [y.val], nv 6 [z3.val], nv 6 [z2.val], nv 6 [4], nv 6 [z4.val], .bool r, .bool r] ?_ ?_
  · refine stpl 0 1 flFp A7 ?_
    refine stpl 0 1 flFp A7 ?_
    refine stpk Try.call33 (fun w h => fpMul_e y y z3 rfl rfl ez3 _) ?_
    refine stpl 0 1 flFp A8 ?_
    refine stpx (fun _ _ => ex_limb6 (e := 4) (by decide) rfl) ?_
    refine stpc (nv 6 [z4.val]) (fun γ w => ex_call (vs := [nv 6 [z2.val], nv 6 [4]]) rfl Try.call34 rfl) (fun w h => fpAdd_e z2 ((4 : Zp)) z4 rfl (zc 4 (small_P (by decide))) ez4 _) ?_
    refine stpx (fun _ _ => ex_eqz z3 z4 rfl rfl rfl rfl r (by subst ez4 ez3 ez2 ez1; exact hr)) ?_
    exact stpa .nil
  intro w10 hb10 HB14
  exact wpr (ret1 Try.results16 (res_tmp rfl)) HB14
theorem oneRight_aff (x y : Zp) (r : Bool) (hr : r = true ↔ y * y = x * x * x + 4) : CI 6 #[sv [.n 6 x.val, .n 6 y.val, .b false]] (.bool r) := fun w => by
  go_enter Try.func6, Try.ntmps6
  refine rh1 (brf w) 28 0 [.n 6 x.val, .n 6 y.val, .b false] [1, 2] (fun γ => [pz (γ 0), .bool false]) ?_ ?_
  · refine stpb 0 (fun γ w h => ex_boxs (l := [.n 6 x.val, .n 6 y.val, .b false]) rfl) ?_
    exact stpa .nil
  intro γ1 w1 hb1 A2 _ HB3
  refine wp_seq ?_
  refine rh0 HB3 [3, 4] [pq (γ1 0) 12, .bool false] ?_ ?_
  · refine stpx (fun _ _ => ex_field faG1_2 rfl) ?_
    exact stpv (fun γ w h => ex_load1 2 (s := .b false) (v := .bool false) sgBool rfl (A2.keep h.out) rfl rfl rfl) .nil
  intro w4 hb4 HB6
  have A5 := A2.keep hb4.out
  refine wp_cond_false rfl ?_
  refine wp_skip ?_
  refine th_r ?_
  refine rh0 HB6 [8, 9, 10, 11, 12, 13, 14, 15, 16, 17, 18, 19, 20, 21, 22, 2] [pz (γ1 0), nv 6 [x.val], .bool true, .bool true, pq (γ1 0) 6, nv 6 [y.val], .bool true, .bool true, .bool true, pz (γ1 0), nv 6 [x.val], pq (γ1 0) 6, nv 6 [y.val], .bool r, .bool r, .bool r] ?_ ?_
  · refine stpx (fun _ _ => ex_field faG1_0 rfl) ?_
    refine stpl 0 1 flFp A5 ?_
    refine stpk Try.call15 (fun w h => fpRight_e x rfl _) ?_
    refine stpm ?_
    refine stpx (fun _ _ => ex_field faG1_1 rfl) ?_
    refine stpl 1 1 flFp A5 ?_
    refine stpk Try.call15 (fun w h => fpRight_e y rfl _) ?_
    refine stpx (fun _ _ => ex_pick (r := true) rfl) ?_
    refine stpm ?_
    refine stpx (fun _ _ => ex_field faG1_0 rfl) ?_
    refine stpl 0 1 flFp A5 ?_
    refine stpx (fun _ _ => ex_field faG1_1 rfl) ?_
    refine stpl 1 1 flFp A5 ?_
    refine stpk Try.call16 (fun w h => onemeets_v x y r hr _) ?_
    refine stpx (fun _ _ => ex_pick (r := true) rfl) ?_
    exact stpa .nil
  intro w7 hb7 HB9
  exact wpr (ret1 Try.results6 (res_tmp rfl)) HB9
def RawOk (x y : Nat) (i : Bool) : Prop := ∃ P : E1, x = ax P.pt ∧ y = ay P.pt ∧ i = ai P.pt
theorem oneRight_p (P : E1) (w : World) : Calls Try.prog 6 #[sv [.n 6 (ax P.pt), .n 6 (ay P.pt), .b (ai P.pt)]] w (Is (.bool true) w) := by
  obtain ⟨P, hP⟩ := P
  cases P with
  | inf => exact oneRight_inf w
  | aff x y => exact oneRight_aff x y true ⟨fun _ => hP, fun _ => rfl⟩ w
theorem oneRight_no {x y : Nat} {i : Bool} (hx : x < fpB) (hy : y < fpB) (h : ¬ RawOk x y i) (w : World) : Calls Try.prog 6 #[sv [.n 6 x, .n 6 y, .b i]] w (Is (.bool false) w) := by
  cases i with
  | true => exact oneRight_rawinf x y hx hy (fun e => h ⟨EP.zero, e.1, e.2, rfl⟩) w
  | false =>
    by_cases h1 : x < pN
    · by_cases h2 : y < pN
      · exact oneRight_aff ⟨x, h1⟩ ⟨y, h2⟩ false ⟨fun e => Bool.noConfusion e, fun e => absurd ⟨⟨.aff ⟨x, h1⟩ ⟨y, h2⟩, e⟩, rfl, rfl, rfl⟩ h⟩ w
      · exact oneRight_rawy x y hx hy h1 h2 w
    · exact oneRight_rawx x y hx h1 w
theorem twelve : (12 : Zp) = 3 * 4 := by decide +kernel
theorem onejoined_p (P Q R : E1) (hs : P.add C1 Q = R) : CI 25 #[sv [.n 6 (ax P.pt), .n 6 (ay P.pt), .b (ai P.pt)], sv [.n 6 (ax Q.pt), .n 6 (ay Q.pt), .b (ai Q.pt)], .func (.func 26) #[] #[]] (.tuple #[sv [.n 6 (ax R.pt), .n 6 (ay R.pt), .b (ai R.pt)], .int .i64 0]) := fun w => by
  obtain ⟨u, hu⟩ : ∃ u, u = plusT (12 : Zp) (oneTri P.pt) (oneTri Q.pt) := ⟨_, rfl⟩
  have hR : u.Is R.pt := by
    rw [hu, ← hs, twelve]
    exact plus_ok FdP hN1 P.on Q.on (oneTri_is _) (oneTri_is _) (EP.sum C1 P Q)
  go_enter Try.func25, Try.ntmps25
  refine rh3 (brf w) 28 0 [.n 6 (ax P.pt), .n 6 (ay P.pt), .b (ai P.pt)] 28 1 [.n 6 (ax Q.pt), .n 6 (ay Q.pt), .b (ai Q.pt)] 28 2 [.n 6 0, .n 6 0, .b false] [3, 4, 6, 7] (fun γ => [pz (γ 0), pz (γ 1), pz (γ 2), .int .i64 0]) ?_ ?_
  · refine stpb 0 (fun γ w h => ex_boxs (l := [.n 6 (ax P.pt), .n 6 (ay P.pt), .b (ai P.pt)]) rfl) ?_
    refine stpb 1 (fun γ w h => ex_boxs (l := [.n 6 (ax Q.pt), .n 6 (ay Q.pt), .b (ai Q.pt)]) rfl) ?_
    refine stpb 2 (fun γ w h => ex_allocs (l := [.n 6 0, .n 6 0, .b false]) zG1) ?_
    exact stpa .nil
  intro γ1 w1 hb1 A2 A3 A4 _ _ le4 hn1 HB5
  refine wp_seq ?_
  refine rh0 HB5 [8, 9, 10, 11, 12, 13, 14, 15] [sv [.n 6 (ax P.pt), .n 6 (ay P.pt), .b (ai P.pt)], .bool true, .bool false, .bool false, sv [.n 6 (ax Q.pt), .n 6 (ay Q.pt), .b (ai Q.pt)], .bool true, .bool false, .bool false] ?_ ?_
  · refine stpv (fun γ w h => ex_loads 0 3 (m := [.n 6 (ax P.pt), .n 6 (ay P.pt), .b (ai P.pt)]) flG1 rfl rfl (A2.keep h.out) rfl rfl) ?_
    refine stpk Try.call6 (fun w h => oneRight_p P _) ?_
    refine stpx (fun _ _ => ex_not (r := true) rfl) ?_
    refine stpm ?_
    refine stpv (fun γ w h => ex_loads 0 3 (m := [.n 6 (ax Q.pt), .n 6 (ay Q.pt), .b (ai Q.pt)]) flG1 rfl rfl (A3.keep h.out) rfl rfl) ?_
    refine stpk Try.call6 (fun w h => oneRight_p Q _) ?_
    refine stpx (fun _ _ => ex_not (r := true) rfl) ?_
    exact stpx (fun _ _ => ex_pick (r := false) rfl) .nil
  intro w6 hb6 HB10
  have A7 := A2.keep hb6.out
  have A8 := A3.keep hb6.out
  have A9 := A4.keep hb6.out
  refine wp_cond_false rfl ?_
  refine wp_skip ?_
  refine th_r ?_
  refine rhs HB10 le4 7 0 [.n 6 (ax R.pt), .n 6 (ay R.pt), .b (ai R.pt)] [17, 18, 19, 20, 21, 22, 23, 7] [.func (.func 26) #[] #[], sv [.n 6 (ax P.pt), .n 6 (ay P.pt), .b (ai P.pt)], sv [.n 6 (((oneTri P.pt).x).val), .n 6 (((oneTri P.pt).y).val), .n 6 (((oneTri P.pt).z).val)], sv [.n 6 (ax Q.pt), .n 6 (ay Q.pt), .b (ai Q.pt)], sv [.n 6 (((oneTri Q.pt).x).val), .n 6 (((oneTri Q.pt).y).val), .n 6 (((oneTri Q.pt).z).val)], sv [.n 6 u.x.val, .n 6 u.y.val, .n 6 u.z.val], sv [.n 6 (ax R.pt), .n 6 (ay R.pt), .b (ai R.pt)], .int .i64 0] ?_ ?_
  · refine latm ?_
    refine latv (fun γ w h => ex_loads 0 3 (m := [.n 6 (ax P.pt), .n 6 (ay P.pt), .b (ai P.pt)]) flG1 rfl rfl (A7.keep h.out) rfl rfl) ?_
    refine latk Try.call22 (fun w h => onebring_q P.pt _) ?_
    refine latv (fun γ w h => ex_loads 0 3 (m := [.n 6 (ax Q.pt), .n 6 (ay Q.pt), .b (ai Q.pt)]) flG1 rfl rfl (A8.keep h.out) rfl rfl) ?_
    refine latk Try.call22 (fun w h => onebring_q Q.pt _) ?_
    refine latk Try.call26 (fun w h => oneplus_q hu _) ?_
    refine latk Try.call24 (fun w h => oneback_q hR _) ?_
    refine latq 0 3 flG1.2 A9 ?_
    exact latf (fun γ w => ex_assign _) .nil
  intro w11 w11_ hb11 hs11 HB19
  have A14 := A9.keep hb11.out
  have A18 := hs11.here 0 3 (l' := [.n 6 (ax R.pt), .n 6 (ay R.pt), .b (ai R.pt)]) A14 rfl rfl rfl
  exact wpr (ret2 Try.results25 (res_sv rfl A18 flG1 rfl) (res_tmp rfl)) HB19
theorem oneAdd_p (P Q R : E1) (hs : P.add C1 Q = R) : CI 12 #[sv [.n 6 (ax P.pt), .n 6 (ay P.pt), .b (ai P.pt)], sv [.n 6 (ax Q.pt), .n 6 (ay Q.pt), .b (ai Q.pt)]] (.tuple #[sv [.n 6 (ax R.pt), .n 6 (ay R.pt), .b (ai R.pt)], .int .i64 0]) := fun w => by
  go_enter Try.func12, Try.ntmps12
  refine rh3 (brf w) 28 0 [.n 6 (ax P.pt), .n 6 (ay P.pt), .b (ai P.pt)] 28 1 [.n 6 (ax Q.pt), .n 6 (ay Q.pt), .b (ai Q.pt)] 28 2 [.n 6 0, .n 6 0, .b false] [2, 3, 4, 5] (fun γ => [pz (γ 0), pz (γ 1), pz (γ 2), .int .i64 0]) ?_ ?_
  · refine stpb 0 (fun γ w h => ex_boxs (l := [.n 6 (ax P.pt), .n 6 (ay P.pt), .b (ai P.pt)]) rfl) ?_
    refine stpb 1 (fun γ w h => ex_boxs (l := [.n 6 (ax Q.pt), .n 6 (ay Q.pt), .b (ai Q.pt)]) rfl) ?_
    refine stpb 2 (fun γ w h => ex_allocs (l := [.n 6 0, .n 6 0, .b false]) zG1) ?_
    exact stpa .nil
  intro γ1 w1 hb1 A2 A3 A4 _ _ le4 hn1 HB5
  refine rhs HB5 le4 5 0 [.n 6 (ax R.pt), .n 6 (ay R.pt), .b (ai R.pt)] [6, 7, 8, 9, 10, 5] [sv [.n 6 (ax P.pt), .n 6 (ay P.pt), .b (ai P.pt)], sv [.n 6 (ax Q.pt), .n 6 (ay Q.pt), .b (ai Q.pt)], .tuple #[sv [.n 6 (ax R.pt), .n 6 (ay R.pt), .b (ai R.pt)], .int .i64 0], sv [.n 6 (ax R.pt), .n 6 (ay R.pt), .b (ai R.pt)], .int .i64 0, .int .i64 0] ?_ ?_
  · refine latv (fun γ w h => ex_loads 0 3 (m := [.n 6 (ax P.pt), .n 6 (ay P.pt), .b (ai P.pt)]) flG1 rfl rfl (A2.keep h.out) rfl rfl) ?_
    refine latv (fun γ w h => ex_loads 0 3 (m := [.n 6 (ax Q.pt), .n 6 (ay Q.pt), .b (ai Q.pt)]) flG1 rfl rfl (A3.keep h.out) rfl rfl) ?_
    refine latk Try.call25 (fun w h => onejoined_p P Q R hs _) ?_
    refine latv (fun γ w h => ex_extract rfl rfl) ?_
    refine latv (fun γ w h => ex_extract rfl rfl) ?_
    refine latq 0 3 flG1.2 A4 ?_
    exact latf (fun γ w => ex_assign _) .nil
  intro w6 w6_ hb6 hs6 HB14
  have A9 := A4.keep hb6.out
  have A13 := hs6.here 0 3 (l' := [.n 6 (ax R.pt), .n 6 (ay R.pt), .b (ai R.pt)]) A9 rfl rfl rfl
  exact wpr (ret2 Try.results12 (res_sv rfl A13 flG1 rfl) (res_tmp rfl)) HB14
end Go.Proofs.Ytkkmekdhejhapaa

/- What is proved here: how often a point is taken; what is of the group; the reference's sum (chirographref09); the laws of package sum: that it is alive; slices of a point or two; the law SumJoins. -/
import Derived.Test.YtkkmekdhejhapaaComp
import Derived.Test.YtkkmekdhejhapaaTwo1
import Derived.Test.YtkkmekdhejhapaaSum1
namespace Go.Proofs.Ytkkmekdhejhapaa
section
section
open Go.RowKit Cv
set_option maxRecDepth 20000
set_option maxHeartbeats 4000000
def g2xa : Nat := 352701069587466618187139116011060144890029952792775240219908644239793785735715026873347600343865175952761926303160
theorem lit_g2xa : nv 6 [g2xa] = .agg #[.int .u64 15312334153293348280, .int .u64 841050694974028783, .int .u64 12993178926126977399, .int .u64 14331714969349929730, .int .u64 2740446039084699729, .int .u64 165123225776229009] := by rw [nv6]; kernel_rfl
def g2xb : Nat := 3059144344244213709971259814753781636986470325476647558659373206291635324768958432433509563104347017837885763365758
theorem lit_g2xb : nv 6 [g2xb] = .agg #[.int .u64 16549740192668593022, .int .u64 3696594454104530263, .int .u64 13103893525273989193, .int .u64 6443473286224459290, .int .u64 9055845637167730533, .int .u64 1432192374203850592] := by rw [nv6]; kernel_rfl
def g2ya : Nat := 1985150602287291935568054521177171638300868978215655730859378665066344726373823718423869104263333984641494340347905
theorem lit_g2ya : nv 6 [g2ya] = .agg #[.int .u64 16254428414758889473, .int .u64 10536956157198377609, .int .u64 7873024875724591404, .int .u64 12537348094477325223, .int .u64 10144865889576432922, .int .u64 929383263523139089] := by rw [nv6]; kernel_rfl
def g2yb : Nat := 927553665492332455747201965776037880757740193453592970025027978793976877002675564980949289727957565575433344219582
theorem lit_g2yb : nv 6 [g2yb] = .agg #[.int .u64 12297368366147926462, .int .u64 4555124010822409633, .int .u64 2771000935339432363, .int .u64 14645187562128761775, .int .u64 3651525051980876697, .int .u64 434250606344352972] := by rw [nv6]; kernel_rfl
theorem twoGen_v : CI 21 #[] (sv [.n 6 g2xa, .n 6 g2xb, .n 6 g2ya, .n 6 g2yb, .b false]) := fun w => by
  go_enter Try.func21, Try.ntmps21
  refine rh1 (brf w) 53 0 [.n 6 0, .n 6 0, .n 6 0, .n 6 0, .b false] [0] (fun γ => [pz (γ 0)]) ?_ ?_
  · exact stpb 0 (fun γ w h => ex_allocs (l := [.n 6 0, .n 6 0, .n 6 0, .n 6 0, .b false]) zG2) .nil
  intro γ1 w1 hb1 A2 le2 HB3
  refine rhs HB3 le2 7 0 [.n 6 g2xa, .n 6 g2xb, .n 6 g2ya, .n 6 g2yb, .b false] [1, 2, 3, 4, 5, 6, 7] [nv 6 [g2xa], nv 6 [g2xb], nv 6 [g2xa, g2xb], nv 6 [g2ya], nv 6 [g2yb], nv 6 [g2ya, g2yb], sv [.n 6 g2xa, .n 6 g2xb, .n 6 g2ya, .n 6 g2yb, .b false]] ?_ ?_
  · refine latv (fun γ w h => ex_six lit_g2xa (fun _ => rfl)) ?_
    refine latv (fun γ w h => ex_six lit_g2xb (fun _ => rfl)) ?_
    refine latv (fun γ w h => ex_build stFp2 (vs := [(0, nv 6 [g2xa]), (1, nv 6 [g2xb])]) rfl (bdAB g2xa g2xb)) ?_
    refine latv (fun γ w h => ex_six lit_g2ya (fun _ => rfl)) ?_
    refine latv (fun γ w h => ex_six lit_g2yb (fun _ => rfl)) ?_
    refine latv (fun γ w h => ex_build stFp2 (vs := [(0, nv 6 [g2ya]), (1, nv 6 [g2yb])]) rfl (bdAB g2ya g2yb)) ?_
    refine latv (fun γ w h => ex_builds stG2 (l := [.n 6 g2xa, .n 6 g2xb, .n 6 g2ya, .n 6 g2yb, .b false]) (vs := [(0, nv 6 [g2xa, g2xb]), (1, nv 6 [g2ya, g2yb])]) rfl ((fills_cons 0 2 (m := [.n 6 g2xa, .n 6 g2xb]) (z' := [.n 6 g2xa, .n 6 g2xb, .n 6 0, .n 6 0, .b false]) rfl (nv_cells 6 [g2xa, g2xb]) rfl rfl rfl rfl).trans ((fills_cons 2 2 (m := [.n 6 g2ya, .n 6 g2yb]) (z' := [.n 6 g2xa, .n 6 g2xb, .n 6 g2ya, .n 6 g2yb, .b false]) rfl (nv_cells 6 [g2ya, g2yb]) rfl rfl rfl rfl).trans rfl))) ?_
    exact latq 0 5 flG2.2 A2 .nil
  intro w4 w4_ hb4 hs4 HB8
  have A5 := A2.keep hb4.out
  have A7 := hs4.here 0 5 (l' := [.n 6 g2xa, .n 6 g2xb, .n 6 g2ya, .n 6 g2yb, .b false]) A5 rfl rfl rfl
  exact wpr (ret1 Try.results21 (res_sv rfl A7 flG2 rfl)) HB8
theorem twogen_t : sv [.n 6 g2xa, .n 6 g2xb, .n 6 g2ya, .n 6 g2yb, .b false] = sv [.n 6 (bx0 G2.pt), .n 6 (bx1 G2.pt), .n 6 (by0 G2.pt), .n 6 (by1 G2.pt), .b (bi G2.pt)] := by
  have h0 : g2xa = bx0 G2.pt := by decide +kernel
  have h1 : g2xb = bx1 G2.pt := by decide +kernel
  have h2 : g2ya = by0 G2.pt := by decide +kernel
  have h3 : g2yb = by1 G2.pt := by decide +kernel
  rw [← h0, ← h1, ← h2, ← h3]
  rfl
theorem twoGen_p (w : World) : Calls Try.prog 21 #[] w (Is (sv [.n 6 (bx0 G2.pt), .n 6 (bx1 G2.pt), .n 6 (by0 G2.pt), .n 6 (by1 G2.pt), .b (bi G2.pt)]) w) := by
  rw [← twogen_t]
  exact twoGen_v w
def Z2 : E2 := EP.zero
end

section
open Go.RowKit Cv
set_option maxRecDepth 20000
set_option maxHeartbeats 4000000
theorem zFrS (w : World) : (zeroValue 38).run Try.prog w = .ok (cv (segs [.n 4 0])) w := by
  rw [zFr w, show [0] = List.replicate 1 0 from rfl, rows_zero]
  rfl
theorem bs_slP1_1 : (Array.range (1 * 13)).map (fun i => (segs [.n 6 0, .n 6 0, .b false]).toArray[i % (segs [.n 6 0, .n 6 0, .b false]).toArray.size]!) = (segs [.n 6 0, .n 6 0, .b false]).toArray := by kernel_rfl
theorem bs_slP1_2 : (Array.range (2 * 13)).map (fun i => (segs [.n 6 0, .n 6 0, .b false]).toArray[i % (segs [.n 6 0, .n 6 0, .b false]).toArray.size]!) = (segs [.n 6 0, .n 6 0, .b false, .n 6 0, .n 6 0, .b false]).toArray := by kernel_rfl
theorem bs_slR1_1 : (Array.range (1 * 4)).map (fun i => (segs [.n 4 0]).toArray[i % (segs [.n 4 0]).toArray.size]!) = (segs [.n 4 0]).toArray := by kernel_rfl
theorem bs_slR1_2 : (Array.range (2 * 4)).map (fun i => (segs [.n 4 0]).toArray[i % (segs [.n 4 0]).toArray.size]!) = (segs [.n 4 0, .n 4 0]).toArray := by kernel_rfl
def two2 (k l : Nat) : Nat → Nat
  | 0 => k
  | _ => l
theorem sumalive_v : CI 9 #[] (.bool true) := fun w => by
  go_enter Try.func9, Try.ntmps9
  refine rh0 (brf w) [0] [.bool false] ?_ ?_
  · exact stpa .nil
  intro w1 hb1 HB2
  refine rhc HB2 [(28, 4, 5, [.n 6 0, .n 6 0, .b false], [.n 6 (ax (((sumE1 (fun _ => Z1) (fun _ => 0) 0)).pt)), .n 6 (ay (((sumE1 (fun _ => Z1) (fun _ => 0) 0)).pt)), .b (ai (((sumE1 (fun _ => Z1) (fun _ => 0) 0)).pt))])] [4, 3, 5, 6, 1, 2] (fun γ => [.tuple #[sv [.n 6 (ax (((sumE1 (fun _ => Z1) (fun _ => 0) 0)).pt)), .n 6 (ay (((sumE1 (fun _ => Z1) (fun _ => 0) 0)).pt)), .b (ai (((sumE1 (fun _ => Z1) (fun _ => 0) 0)).pt))], .int .i64 0], .tuple #[sv [.n 6 (ax (((sumE1 (fun _ => Z1) (fun _ => 0) 0)).pt)), .n 6 (ay (((sumE1 (fun _ => Z1) (fun _ => 0) 0)).pt)), .b (ai (((sumE1 (fun _ => Z1) (fun _ => 0) 0)).pt))], .int .i64 0], sv [.n 6 (ax (((sumE1 (fun _ => Z1) (fun _ => 0) 0)).pt)), .n 6 (ay (((sumE1 (fun _ => Z1) (fun _ => 0) 0)).pt)), .b (ai (((sumE1 (fun _ => Z1) (fun _ => 0) 0)).pt))], .int .i64 0, pz (γ 0), .int .i64 0]) ?_ ?_
  · refine stpc (.tuple #[sv [.n 6 (ax (((sumE1 (fun _ => Z1) (fun _ => 0) 0)).pt)), .n 6 (ay (((sumE1 (fun _ => Z1) (fun _ => 0) 0)).pt)), .b (ai (((sumE1 (fun _ => Z1) (fun _ => 0) 0)).pt))], .int .i64 0]) (fun γ w => ex_call (vs := [.slice none 0 0, .slice none 0 0]) rfl Try.call7 rfl) (fun w h => sumFew1_p 0 (by decide) (fun _ => Z1) (fun _ => 0) none none 0 0 (by decide) (fun i hi => absurd hi (Nat.not_lt_zero i)) _ (Row.none _ _ _ _) (Row.none _ _ _ _)) ?_
    refine stpm ?_
    refine stpx (fun _ _ => ex_extract rfl rfl) ?_
    refine stpx (fun _ _ => ex_extract rfl rfl) ?_
    refine stpn 0 (fun γ w => ex_allocs (l := [.n 6 0, .n 6 0, .b false]) zG1) ?_
    refine stpq 0 0 3 flG1.2 ?_
    exact stpa .nil
  intro γ3 w3 hb3 hB3 _ HB5
  have A4 : SB 28 w3 (γ3 0) [.n 6 (ax (((sumE1 (fun _ => Z1) (fun _ => 0) 0)).pt)), .n 6 (ay (((sumE1 (fun _ => Z1) (fun _ => 0) 0)).pt)), .b (ai (((sumE1 (fun _ => Z1) (fun _ => 0) 0)).pt))] := (hB3 0 rfl).2
  refine rh0 HB5 [7, 8, 9, 10, 11, 12, 13, 14, 15, 16, 17, 18, 19, 20, 21, 0] [.int .i64 0, .bool true, .bool true, sv [.n 6 (ax (((sumE1 (fun _ => Z1) (fun _ => 0) 0)).pt)), .n 6 (ay (((sumE1 (fun _ => Z1) (fun _ => 0) 0)).pt)), .b (ai (((sumE1 (fun _ => Z1) (fun _ => 0) 0)).pt))], sv [.n 6 (ax Z1.pt), .n 6 (ay Z1.pt), .b (ai Z1.pt)], .bool true, .bool true, .bool true, sv [.n 6 (ax G1.pt), .n 6 (ay G1.pt), .b (ai G1.pt)], .bool true, .bool true, .bool true, sv [.n 6 (bx0 G2.pt), .n 6 (bx1 G2.pt), .n 6 (by0 G2.pt), .n 6 (by1 G2.pt), .b (bi G2.pt)], .bool true, .bool true, .bool true] ?_ ?_
  · refine stpm ?_
    refine stpx (fun _ _ => ex_eqi rfl rfl _ rfl) ?_
    refine stpm ?_
    refine stpv (fun γ w h => ex_loads 0 3 (m := [.n 6 (ax (((sumE1 (fun _ => Z1) (fun _ => 0) 0)).pt)), .n 6 (ay (((sumE1 (fun _ => Z1) (fun _ => 0) 0)).pt)), .b (ai (((sumE1 (fun _ => Z1) (fun _ => 0) 0)).pt))]) flG1 rfl rfl (A4.keep h.out) rfl rfl) ?_
    refine stpk Try.call10 (fun w h => oneZero_p _) ?_
    refine stpx (fun _ _ => ex_eqs gdG1 eqG1 rfl rfl rfl (shG1_of (ax_B (((sumE1 (fun _ => Z1) (fun _ => 0) 0)).pt)) (ay_B (((sumE1 (fun _ => Z1) (fun _ => 0) 0)).pt))) (shG1_of (ax_B Z1.pt) (ay_B Z1.pt)) true (onept_eq _ _ true (by simp [sumE1, Z1]))) ?_
    refine stpx (fun _ _ => ex_pick (r := true) rfl) ?_
    refine stpm ?_
    refine stpk Try.call19 (fun w h => oneGen_p _) ?_
    refine stpk Try.call6 (fun w h => oneRight_p G1 _) ?_
    refine stpx (fun _ _ => ex_pick (r := true) rfl) ?_
    refine stpm ?_
    refine stpk Try.call21 (fun w h => twoGen_p _) ?_
    refine stpk Try.call20 (fun w h => twoRight_p G2 _) ?_
    refine stpx (fun _ _ => ex_pick (r := true) rfl) ?_
    exact stpa .nil
  intro w6 hb6 HB8
  exact wpr (ret1 Try.results9 (res_tmp rfl)) HB8
end
end

section
open Go.RowKit Cv
set_option maxRecDepth 20000
set_option maxHeartbeats 4000000
theorem joins_eq {P : E1} {k l q : Nat} (hg : EP.times C1 rN P = EP.zero) (hq : q = (k + l) % rN) : sumE1 (fun _ => P) (two2 k l) 2 = sumE1 (fun _ => P) (fun _ => q) 1 := by
  show ((EP.zero : E1).add C1 (EP.times C1 k P)).add C1 (EP.times C1 l P) = (EP.zero : E1).add C1 (EP.times C1 q P)
  rw [EP.zero_add, EP.zero_add, ← EP.times_add, hq, EP.times_mod C1 hg]
theorem sumJoins_yes (k l : Nat) (hk : k < frB) (hl : l < frB) (P : E1) (hg : EP.times C1 rN P = EP.zero) (q : Nat) (hq : q = (k + l) % rN) (hqB : q < frB) : CI 5 #[sv [.n 6 (ax P.pt), .n 6 (ay P.pt), .b (ai P.pt)], nv 4 [k], nv 4 [l]] (.bool true) := fun w => by
  go_enter Try.func5, Try.ntmps5
  refine rh3 (brf w) 28 0 [.n 6 (ax P.pt), .n 6 (ay P.pt), .b (ai P.pt)] 38 1 [.n 4 k] 38 2 [.n 4 l] [3, 4, 5, 6] (fun γ => [pz (γ 0), pz (γ 1), pz (γ 2), .bool false]) ?_ ?_
  · refine stpb 0 (fun γ w h => ex_boxs (l := [.n 6 (ax P.pt), .n 6 (ay P.pt), .b (ai P.pt)]) rfl) ?_
    refine stpb 1 (fun γ w h => ex_boxsn (K := 4) (l := [k]) rfl) ?_
    refine stpb 2 (fun γ w h => ex_boxsn (K := 4) (l := [l]) rfl) ?_
    exact stpa .nil
  intro γ1 w1 hb1 A2 A3 A4 _ _ _ hn1 HB5
  refine wp_seq ?_
  refine rh0 HB5 [11, 12, 13] [sv [.n 6 (ax P.pt), .n 6 (ay P.pt), .b (ai P.pt)], .bool true, .bool false] ?_ ?_
  · refine stpv (fun γ w h => ex_loads 0 3 (m := [.n 6 (ax P.pt), .n 6 (ay P.pt), .b (ai P.pt)]) flG1 rfl rfl (A2.keep h.out) rfl rfl) ?_
    refine stpc (.bool true) (fun γ w => ex_call (vs := [sv [.n 6 (ax P.pt), .n 6 (ay P.pt), .b (ai P.pt)]]) rfl Try.call13 rfl) (fun w h => oneGroup_q P true (by simp [hg]) _) ?_
    exact stpx (fun _ _ => ex_not (r := true) rfl) .nil
  intro w6 hb6 HB10
  have A7 := A2.keep hb6.out
  have A8 := A3.keep hb6.out
  have A9 := A4.keep hb6.out
  refine wp_cond_false rfl ?_
  refine wp_skip ?_
  refine th_r ?_
  refine rhc HB10 [bs 28 2 [.n 6 (ax P.pt), .n 6 (ay P.pt), .b (ai P.pt), .n 6 (ax P.pt), .n 6 (ay P.pt), .b (ai P.pt)], bs 38 5 [.n 4 k, .n 4 l], (28, 10, 11, [.n 6 0, .n 6 0, .b false], [.n 6 (ax (((sumE1 (fun _ => P) (two2 k l) 2)).pt)), .n 6 (ay (((sumE1 (fun _ => P) (two2 k l) 2)).pt)), .b (ai (((sumE1 (fun _ => P) (two2 k l) 2)).pt))])] [16, 17, 18, 19, 20, 21, 22, 15, 23, 24, 7, 8] (fun γ => [sv [.n 6 (ax P.pt), .n 6 (ay P.pt), .b (ai P.pt)], sv [.n 6 (ax P.pt), .n 6 (ay P.pt), .b (ai P.pt)], .slice (some ⟨γ 0, 0, none⟩) 2 2, nv 4 [k], nv 4 [l], .slice (some ⟨γ 1, 0, none⟩) 2 2, .tuple #[sv [.n 6 (ax (((sumE1 (fun _ => P) (two2 k l) 2)).pt)), .n 6 (ay (((sumE1 (fun _ => P) (two2 k l) 2)).pt)), .b (ai (((sumE1 (fun _ => P) (two2 k l) 2)).pt))], .int .i64 0], .tuple #[sv [.n 6 (ax (((sumE1 (fun _ => P) (two2 k l) 2)).pt)), .n 6 (ay (((sumE1 (fun _ => P) (two2 k l) 2)).pt)), .b (ai (((sumE1 (fun _ => P) (two2 k l) 2)).pt))], .int .i64 0], sv [.n 6 (ax (((sumE1 (fun _ => P) (two2 k l) 2)).pt)), .n 6 (ay (((sumE1 (fun _ => P) (two2 k l) 2)).pt)), .b (ai (((sumE1 (fun _ => P) (two2 k l) 2)).pt))], .int .i64 0, pz (γ 2), .int .i64 0]) ?_ ?_
  · refine stpv (fun γ w h => ex_loads 0 3 (m := [.n 6 (ax P.pt), .n 6 (ay P.pt), .b (ai P.pt)]) flG1 rfl rfl (A7.keep h.out) rfl rfl) ?_
    refine stpv (fun γ w h => ex_loads 0 3 (m := [.n 6 (ax P.pt), .n 6 (ay P.pt), .b (ai P.pt)]) flG1 rfl rfl (A7.keep h.out) rfl rfl) ?_
    refine GSteps.cons (gm_lit 0 rfl (fun n => .slice (some ⟨n, 0, none⟩) 2 2) (fun _ => rfl) (fun _ _ => rfl) (fun γ w h => ex_bsl slP1 (k := 2) (zc := segs [.n 6 0, .n 6 0, .b false]) (z := [.n 6 0, .n 6 0, .b false, .n 6 0, .n 6 0, .b false]) (l := [.n 6 (ax P.pt), .n 6 (ay P.pt), .b (ai P.pt), .n 6 (ax P.pt), .n 6 (ay P.pt), .b (ai P.pt)]) (vs := [(0, sv [.n 6 (ax P.pt), .n 6 (ay P.pt), .b (ai P.pt)]), (1, sv [.n 6 (ax P.pt), .n 6 (ay P.pt), .b (ai P.pt)])]) zG1 bs_slP1_2 rfl rfl rfl ((fills_cons 0 3 (m := [.n 6 (ax P.pt), .n 6 (ay P.pt), .b (ai P.pt)]) (z' := [.n 6 (ax P.pt), .n 6 (ay P.pt), .b (ai P.pt), .n 6 0, .n 6 0, .b false]) rfl rfl rfl rfl rfl rfl).trans ((fills_cons 3 3 (m := [.n 6 (ax P.pt), .n 6 (ay P.pt), .b (ai P.pt)]) (z' := [.n 6 (ax P.pt), .n 6 (ay P.pt), .b (ai P.pt), .n 6 (ax P.pt), .n 6 (ay P.pt), .b (ai P.pt)]) rfl rfl rfl rfl rfl rfl).trans rfl))) rfl rfl rfl) ?_
    refine stpv (fun γ w h => ex_loadsn (K := 4) 0 1 (m := [k]) flFr rfl rfl (A8.keep h.out) rfl rfl) ?_
    refine stpv (fun γ w h => ex_loadsn (K := 4) 0 1 (m := [l]) flFr rfl rfl (A9.keep h.out) rfl rfl) ?_
    refine GSteps.cons (gm_lit 1 rfl (fun n => .slice (some ⟨n, 0, none⟩) 2 2) (fun _ => rfl) (fun _ _ => rfl) (fun γ w h => ex_bsl slR1 (k := 2) (zc := segs [.n 4 0]) (z := [.n 4 0, .n 4 0]) (l := [.n 4 k, .n 4 l]) (vs := [(0, nv 4 [k]), (1, nv 4 [l])]) zFrS bs_slR1_2 rfl rfl rfl ((fills_cons 0 1 (m := [.n 4 k]) (z' := [.n 4 k, .n 4 0]) rfl (nv_cells 4 [k]) rfl rfl rfl rfl).trans ((fills_cons 1 1 (m := [.n 4 l]) (z' := [.n 4 k, .n 4 l]) rfl (nv_cells 4 [l]) rfl rfl rfl rfl).trans rfl))) rfl rfl rfl) ?_
    refine GSteps.cons (gm_call2 0 1 rfl rfl rfl (fun _ => rfl) (fun _ => rfl) (fun γ w => ex_call (vs := [.slice (some ⟨γ 0, 0, none⟩) 2 2, .slice (some ⟨γ 1, 0, none⟩) 2 2]) rfl Try.call7 rfl) (fun γ w h hb1 hb2 => sumFew1_p 2 (by decide) (fun _ => P) (two2 k l) (some ⟨γ 0, 0, none⟩) (some ⟨γ 1, 0, none⟩) 2 2 (by decide) (fun i hi => by rcases i with _ | _ | i; exact hk; exact hl; omega) _ (SB.row (S := fun i => pt1 ((fun _ => P) i)) hb1 rfl (fun _ => rfl)) (SB.row (S := fun i => [.n 4 ((two2 k l) i)]) hb2 rfl (fun _ => rfl))) rfl rfl (by kernel_rfl) rfl (by kernel_rfl) (by kernel_rfl)) ?_
    refine stpm ?_
    refine stpx (fun _ _ => ex_extract rfl rfl) ?_
    refine stpx (fun _ _ => ex_extract rfl rfl) ?_
    refine stpn 2 (fun γ w => ex_allocs (l := [.n 6 0, .n 6 0, .b false]) zG1) ?_
    refine stpq 2 0 3 flG1.2 ?_
    exact stpa .nil
  intro γ11 w11 hb11 hB11 hn11 HB18
  have A12 := A7.keep hb11.out
  have A13 := A8.keep hb11.out
  have A14 := A9.keep hb11.out
  have A17 : SB 28 w11 (γ11 2) [.n 6 (ax (((sumE1 (fun _ => P) (two2 k l) 2)).pt)), .n 6 (ay (((sumE1 (fun _ => P) (two2 k l) 2)).pt)), .b (ai (((sumE1 (fun _ => P) (two2 k l) 2)).pt))] := (hB11 2 rfl).2
  refine rhc HB18 [bs 28 1 [.n 6 (ax P.pt), .n 6 (ay P.pt), .b (ai P.pt)], bs 38 5 [.n 4 q], (28, 10, 11, [.n 6 0, .n 6 0, .b false], [.n 6 (ax (((sumE1 (fun _ => P) (fun _ => q) 1)).pt)), .n 6 (ay (((sumE1 (fun _ => P) (fun _ => q) 1)).pt)), .b (ai (((sumE1 (fun _ => P) (fun _ => q) 1)).pt))])] [26, 27, 28, 29, 30, 31, 32, 25, 33, 34, 9, 10] (fun γ => [sv [.n 6 (ax P.pt), .n 6 (ay P.pt), .b (ai P.pt)], .slice (some ⟨γ 0, 0, none⟩) 1 1, nv 4 [k], nv 4 [l], nv 4 [q], .slice (some ⟨γ 1, 0, none⟩) 1 1, .tuple #[sv [.n 6 (ax (((sumE1 (fun _ => P) (fun _ => q) 1)).pt)), .n 6 (ay (((sumE1 (fun _ => P) (fun _ => q) 1)).pt)), .b (ai (((sumE1 (fun _ => P) (fun _ => q) 1)).pt))], .int .i64 0], .tuple #[sv [.n 6 (ax (((sumE1 (fun _ => P) (fun _ => q) 1)).pt)), .n 6 (ay (((sumE1 (fun _ => P) (fun _ => q) 1)).pt)), .b (ai (((sumE1 (fun _ => P) (fun _ => q) 1)).pt))], .int .i64 0], sv [.n 6 (ax (((sumE1 (fun _ => P) (fun _ => q) 1)).pt)), .n 6 (ay (((sumE1 (fun _ => P) (fun _ => q) 1)).pt)), .b (ai (((sumE1 (fun _ => P) (fun _ => q) 1)).pt))], .int .i64 0, pz (γ 2), .int .i64 0]) ?_ ?_
  · refine stpv (fun γ w h => ex_loads 0 3 (m := [.n 6 (ax P.pt), .n 6 (ay P.pt), .b (ai P.pt)]) flG1 rfl rfl (A12.keep h.out) rfl rfl) ?_
    refine GSteps.cons (gm_lit 0 rfl (fun n => .slice (some ⟨n, 0, none⟩) 1 1) (fun _ => rfl) (fun _ _ => rfl) (fun γ w h => ex_bsl slP1 (k := 1) (zc := segs [.n 6 0, .n 6 0, .b false]) (z := [.n 6 0, .n 6 0, .b false]) (l := [.n 6 (ax P.pt), .n 6 (ay P.pt), .b (ai P.pt)]) (vs := [(0, sv [.n 6 (ax P.pt), .n 6 (ay P.pt), .b (ai P.pt)])]) zG1 bs_slP1_1 rfl rfl rfl ((fills_cons 0 3 (m := [.n 6 (ax P.pt), .n 6 (ay P.pt), .b (ai P.pt)]) (z' := [.n 6 (ax P.pt), .n 6 (ay P.pt), .b (ai P.pt)]) rfl rfl rfl rfl rfl rfl).trans rfl)) rfl rfl rfl) ?_
    refine stpv (fun γ w h => ex_loadsn (K := 4) 0 1 (m := [k]) flFr rfl rfl (A13.keep h.out) rfl rfl) ?_
    refine stpv (fun γ w h => ex_loadsn (K := 4) 0 1 (m := [l]) flFr rfl rfl (A14.keep h.out) rfl rfl) ?_
    refine stpk Try.call14 (fun w h => frAdd_n k l _ hk hl q hq) ?_
    refine GSteps.cons (gm_lit 1 rfl (fun n => .slice (some ⟨n, 0, none⟩) 1 1) (fun _ => rfl) (fun _ _ => rfl) (fun γ w h => ex_bsl slR1 (k := 1) (zc := segs [.n 4 0]) (z := [.n 4 0]) (l := [.n 4 q]) (vs := [(0, nv 4 [q])]) zFrS bs_slR1_1 rfl rfl rfl ((fills_cons 0 1 (m := [.n 4 q]) (z' := [.n 4 q]) rfl (nv_cells 4 [q]) rfl rfl rfl rfl).trans rfl)) rfl rfl rfl) ?_
    refine GSteps.cons (gm_call2 0 1 rfl rfl rfl (fun _ => rfl) (fun _ => rfl) (fun γ w => ex_call (vs := [.slice (some ⟨γ 0, 0, none⟩) 1 1, .slice (some ⟨γ 1, 0, none⟩) 1 1]) rfl Try.call7 rfl) (fun γ w h hb1 hb2 => sumFew1_p 1 (by decide) (fun _ => P) (fun _ => q) (some ⟨γ 0, 0, none⟩) (some ⟨γ 1, 0, none⟩) 1 1 (by decide) (fun _ _ => hqB) _ (SB.row (S := fun i => pt1 ((fun _ => P) i)) hb1 rfl (fun _ => rfl)) (SB.row (S := fun i => [.n 4 ((fun _ => q) i)]) hb2 rfl (fun _ => rfl))) rfl rfl (by kernel_rfl) rfl (by kernel_rfl) (by kernel_rfl)) ?_
    refine stpm ?_
    refine stpx (fun _ _ => ex_extract rfl rfl) ?_
    refine stpx (fun _ _ => ex_extract rfl rfl) ?_
    refine stpn 2 (fun γ w => ex_allocs (l := [.n 6 0, .n 6 0, .b false]) zG1) ?_
    refine stpq 2 0 3 flG1.2 ?_
    exact stpa .nil
  intro γ19 w19 hb19 hB19 hn19 HB29
  have A25 := A17.keep hb19.out
  have A28 : SB 28 w19 (γ19 2) [.n 6 (ax (((sumE1 (fun _ => P) (fun _ => q) 1)).pt)), .n 6 (ay (((sumE1 (fun _ => P) (fun _ => q) 1)).pt)), .b (ai (((sumE1 (fun _ => P) (fun _ => q) 1)).pt))] := (hB19 2 rfl).2
  refine rh0 HB29 [35, 36, 37, 38, 39, 40, 41, 42, 43, 44, 45, 46, 47, 48, 6] [.bool true, .bool true, .int .i64 0, .bool true, .bool true, .bool true, .int .i64 0, .bool true, .bool true, .bool true, sv [.n 6 (ax (((sumE1 (fun _ => P) (two2 k l) 2)).pt)), .n 6 (ay (((sumE1 (fun _ => P) (two2 k l) 2)).pt)), .b (ai (((sumE1 (fun _ => P) (two2 k l) 2)).pt))], sv [.n 6 (ax (((sumE1 (fun _ => P) (fun _ => q) 1)).pt)), .n 6 (ay (((sumE1 (fun _ => P) (fun _ => q) 1)).pt)), .b (ai (((sumE1 (fun _ => P) (fun _ => q) 1)).pt))], .bool true, .bool true, .bool true] ?_ ?_
  · refine stpk Try.call9 (fun w h => sumalive_v _) ?_
    refine stpm ?_
    refine stpm ?_
    refine stpx (fun _ _ => ex_eqi rfl rfl _ rfl) ?_
    refine stpx (fun _ _ => ex_pick (r := true) rfl) ?_
    refine stpm ?_
    refine stpm ?_
    refine stpx (fun _ _ => ex_eqi rfl rfl _ rfl) ?_
    refine stpx (fun _ _ => ex_pick (r := true) rfl) ?_
    refine stpm ?_
    refine stpv (fun γ w h => ex_loads 0 3 (m := [.n 6 (ax (((sumE1 (fun _ => P) (two2 k l) 2)).pt)), .n 6 (ay (((sumE1 (fun _ => P) (two2 k l) 2)).pt)), .b (ai (((sumE1 (fun _ => P) (two2 k l) 2)).pt))]) flG1 rfl rfl (A25.keep h.out) rfl rfl) ?_
    refine stpv (fun γ w h => ex_loads 0 3 (m := [.n 6 (ax (((sumE1 (fun _ => P) (fun _ => q) 1)).pt)), .n 6 (ay (((sumE1 (fun _ => P) (fun _ => q) 1)).pt)), .b (ai (((sumE1 (fun _ => P) (fun _ => q) 1)).pt))]) flG1 rfl rfl (A28.keep h.out) rfl rfl) ?_
    refine stpx (fun _ _ => ex_eqs gdG1 eqG1 rfl rfl rfl (shG1_of (ax_B (((sumE1 (fun _ => P) (two2 k l) 2)).pt)) (ay_B (((sumE1 (fun _ => P) (two2 k l) 2)).pt))) (shG1_of (ax_B (((sumE1 (fun _ => P) (fun _ => q) 1)).pt)) (ay_B (((sumE1 (fun _ => P) (fun _ => q) 1)).pt))) true (onept_eq _ _ true (by simp only [true_iff]; exact joins_eq hg hq))) ?_
    refine stpx (fun _ _ => ex_pick (r := true) rfl) ?_
    exact stpa .nil
  intro w30 hb30 HB40
  exact wpr (ret1 Try.results5 (res_tmp rfl)) HB40
theorem sumJoins_no (k l : Nat) (hk : k < frB) (hl : l < frB) (P : E1) (hg : ¬ EP.times C1 rN P = EP.zero) : CI 5 #[sv [.n 6 (ax P.pt), .n 6 (ay P.pt), .b (ai P.pt)], nv 4 [k], nv 4 [l]] (.bool true) := fun w => by
  go_enter Try.func5, Try.ntmps5
  refine rh3 (brf w) 28 0 [.n 6 (ax P.pt), .n 6 (ay P.pt), .b (ai P.pt)] 38 1 [.n 4 k] 38 2 [.n 4 l] [3, 4, 5, 6] (fun γ => [pz (γ 0), pz (γ 1), pz (γ 2), .bool false]) ?_ ?_
  · refine stpb 0 (fun γ w h => ex_boxs (l := [.n 6 (ax P.pt), .n 6 (ay P.pt), .b (ai P.pt)]) rfl) ?_
    refine stpb 1 (fun γ w h => ex_boxsn (K := 4) (l := [k]) rfl) ?_
    refine stpb 2 (fun γ w h => ex_boxsn (K := 4) (l := [l]) rfl) ?_
    exact stpa .nil
  intro γ1 w1 hb1 A2 _ _ _ _ _ hn1 HB5
  refine wp_seq ?_
  refine rh0 HB5 [11, 12, 13] [sv [.n 6 (ax P.pt), .n 6 (ay P.pt), .b (ai P.pt)], .bool false, .bool true] ?_ ?_
  · refine stpv (fun γ w h => ex_loads 0 3 (m := [.n 6 (ax P.pt), .n 6 (ay P.pt), .b (ai P.pt)]) flG1 rfl rfl (A2.keep h.out) rfl rfl) ?_
    refine stpc (.bool false) (fun γ w => ex_call (vs := [sv [.n 6 (ax P.pt), .n 6 (ay P.pt), .b (ai P.pt)]]) rfl Try.call13 rfl) (fun w h => oneGroup_q P false (by simp [hg]) _) ?_
    exact stpx (fun _ _ => ex_not (r := false) rfl) .nil
  intro w6 hb6 HB10
  refine wp_cond_true rfl ?_
  refine rh0 HB10 [14, 6] [.bool true, .bool true] ?_ ?_
  · refine stpk Try.call9 (fun w h => sumalive_v _) ?_
    exact stpa .nil
  intro w11 hb11 HB15
  exact wprt (ret1 Try.results5 (res_tmp rfl)) HB15
theorem sumJoins_raw (k l : Nat) (hk : k < frB) (hl : l < frB) (x y : Nat) (i : Bool) (hx : x < fpB) (hy : y < fpB) (h0 : ¬ RawOk x y i) : CI 5 #[sv [.n 6 x, .n 6 y, .b i], nv 4 [k], nv 4 [l]] (.bool true) := fun w => by
  go_enter Try.func5, Try.ntmps5
  refine rh3 (brf w) 28 0 [.n 6 x, .n 6 y, .b i] 38 1 [.n 4 k] 38 2 [.n 4 l] [3, 4, 5, 6] (fun γ => [pz (γ 0), pz (γ 1), pz (γ 2), .bool false]) ?_ ?_
  · refine stpb 0 (fun γ w h => ex_boxs (l := [.n 6 x, .n 6 y, .b i]) rfl) ?_
    refine stpb 1 (fun γ w h => ex_boxsn (K := 4) (l := [k]) rfl) ?_
    refine stpb 2 (fun γ w h => ex_boxsn (K := 4) (l := [l]) rfl) ?_
    exact stpa .nil
  intro γ1 w1 hb1 A2 _ _ _ _ _ hn1 HB5
  refine wp_seq ?_
  refine rh0 HB5 [11, 12, 13] [sv [.n 6 x, .n 6 y, .b i], .bool false, .bool true] ?_ ?_
  · refine stpv (fun γ w h => ex_loads 0 3 (m := [.n 6 x, .n 6 y, .b i]) flG1 rfl rfl (A2.keep h.out) rfl rfl) ?_
    refine stpk Try.call13 (fun w h => oneGroup_n x y i hx hy h0 _) ?_
    exact stpx (fun _ _ => ex_not (r := false) rfl) .nil
  intro w6 hb6 HB10
  refine wp_cond_true rfl ?_
  refine rh0 HB10 [14, 6] [.bool true, .bool true] ?_ ?_
  · refine stpk Try.call9 (fun w h => sumalive_v _) ?_
    exact stpa .nil
  intro w11 hb11 HB15
  exact wprt (ret1 Try.results5 (res_tmp rfl)) HB15
theorem sumJoins_v (x y : Nat) (i : Bool) (hx : x < fpB) (hy : y < fpB) (k l : Nat) (hk : k < frB) (hl : l < frB) : CI 5 #[sv [.n 6 x, .n 6 y, .b i], nv 4 [k], nv 4 [l]] (.bool true) := fun w => by
  by_cases h0 : RawOk x y i
  · obtain ⟨P, rfl, rfl, rfl⟩ := h0
    by_cases hg : EP.times C1 rN P = EP.zero
    · exact sumJoins_yes k l hk hl P hg _ rfl (frM_modB _) w
    · exact sumJoins_no k l hk hl P hg w
  · exact sumJoins_raw k l hk hl x y i hx hy h0 w
end
end Go.Proofs.Ytkkmekdhejhapaa

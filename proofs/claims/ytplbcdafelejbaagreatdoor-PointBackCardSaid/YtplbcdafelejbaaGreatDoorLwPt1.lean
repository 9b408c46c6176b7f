/- What is proved here: package point, the first curve: what is put is got again; what is got, put again, is the bytes; package point, the second curve: what is put is got again; what is got, put again, is the bytes; the laws of package point: that it is alive; the law PointBack of package point. -/
import Derived.Test.YtplbcdafelejbaaGreatDoorPt24
namespace Go.Proofs.YtplbcdafelejbaaGreatDoor
section
section
open Go.RowKit Cv
set_option maxRecDepth 20000
set_option maxHeartbeats 4000000
def xb1 (P : Pt Zp) : List UInt8 := be 48 (ax P)
def yb1 (P : Pt Zp) : List UInt8 := be 48 (ay P)
def put1L (P : Pt Zp) : List UInt8 := mark (fk true (ai P) (pHigh (ay P))) (xb1 P)
def wide1L (P : Pt Zp) : List UInt8 := mark (fk false (ai P) false) (xb1 P ++ yb1 P)
theorem pt1put_q (P : E1) (hT : EP.times C1 rN P = EP.zero) (w : World) : Calls Tryz.prog 25 #[sv [.n 6 (ax P.pt), .n 6 (ay P.pt), .b (ai P.pt)]] w (Is (.tuple #[str ((put1L P.pt)), .int .i64 0]) w) := pt1put_in P hT w
theorem pt1wide_q (P : E1) (hT : EP.times C1 rN P = EP.zero) (w : World) : Calls Tryz.prog 26 #[sv [.n 6 (ax P.pt), .n 6 (ay P.pt), .b (ai P.pt)]] w (Is (.tuple #[str ((wide1L P.pt)), .int .i64 0]) w) := pt1wide_in P hT w
theorem xb1_len (P : Pt Zp) : (xb1 P).length = 48 := by unfold xb1; simp only [length_be]
theorem yb1_len (P : Pt Zp) : (yb1 P).length = 48 := by unfold yb1; simp only [length_be]
theorem put1_len (P : Pt Zp) : (put1L P).length = 48 := by unfold put1L; rw [length_mark, xb1_len]
theorem wide1_len (P : Pt Zp) : (wide1L P).length = 96 := by unfold wide1L; rw [length_mark, List.length_append, xb1_len, yb1_len]
theorem xb1_led (P : Pt Zp) : Led (xb1 P) := led_be (ax_P P)
theorem zeros_app (a b : List UInt8) : zeros (a ++ b) = (zeros a && zeros b) := by simp [zeros]
theorem zeros_be : zeros (be 48 0) = true := by decide +kernel
theorem bval_be48 {v : Nat} (h : v < pN) : bval (be 48 v) = v := by
  rw [bval_be, Nat.mod_eq_of_lt]
  have := p_381
  omega
theorem ch_at0 (a b : List UInt8) (h : a.length = 48) : ch 0 (a ++ b) = bval a := by
  unfold ch
  rw [Nat.mul_zero, List.drop_zero, List.take_append_of_le_length (by omega), List.take_of_length_le (by omega)]
theorem ch_atS (a b : List UInt8) (j : Nat) (h : a.length = 48) : ch (j + 1) (a ++ b) = ch j b := by
  unfold ch
  rw [show 48 * (j + 1) = a.length + 48 * j by omega, List.drop_append, List.drop_of_length_le (by omega), List.nil_append, show a.length + 48 * j - a.length = 48 * j by omega]
theorem x1_of (x : Zp) : ch 0 (be 48 x.val) = x.val := by rw [ch_0 _ (length_be _ _), bval_be48 x.isLt]
theorem xy1_of (x y : Zp) : ch 0 (be 48 x.val ++ be 48 y.val) = x.val ∧ ch 1 (be 48 x.val ++ be 48 y.val) = y.val :=
  ⟨by rw [ch_at0 _ _ (length_be _ _), bval_be48 x.isLt], by rw [ch_atS _ _ 0 (length_be _ _), x1_of]⟩
theorem back1_s (P : E1) (hT : EP.times C1 rN P = EP.zero) : (CI 7 #[str ((put1L P.pt))] (.tuple #[sv [.n 6 (ax P.pt), .n 6 (ay P.pt), .b (ai P.pt)], .int .i64 0])) := by
  have hk := kOf_mark (xb1_led P.pt) (fk_lt true (ai P.pt) (pHigh (ay P.pt)))
  have hm := low_mark (xb1_led P.pt) (fk_lt true (ai P.pt) (pHigh (ay P.pt)))
  have hl := put1_len P.pt
  have h7 : f7 (kOf (put1L P.pt)) = true := by unfold put1L; rw [hk, f7_fk]
  have h6 : f6 (kOf (put1L P.pt)) = ai P.pt := by unfold put1L; rw [hk, f6_fk]
  have h5 : f5 (kOf (put1L P.pt)) = (pHigh (ay P.pt)) := by unfold put1L; rw [hk, f5_fk]
  have hm' : low (put1L P.pt) = xb1 P.pt := hm
  clear hk hm
  cases hP : P.pt with
  | inf =>
    rw [hP] at h6 h5 h7 hl hm'
    have hz : pHigh 0 = false := high_zero (by decide +kernel)
    exact pt1g_s_inf _ hl h7 h6 (h5.trans hz) (by rw [hm']; exact zeros_be)
  | aff x y =>
    have hg := pt1g_s_in (put1L P.pt) hl h7 (h6.trans (by rw [hP]; rfl)) P x y hP
    rw [hP] at h5 hm' hg
    rw [hm'] at hg
    exact hg (x1_of x) h5 hT
theorem back1_w (P : E1) (hT : EP.times C1 rN P = EP.zero) : (CI 7 #[str ((wide1L P.pt))] (.tuple #[sv [.n 6 (ax P.pt), .n 6 (ay P.pt), .b (ai P.pt)], .int .i64 0])) := by
  have hled := led_app (m := yb1 P.pt) (xb1_led P.pt)
  have hk := kOf_mark hled (fk_lt false (ai P.pt) false)
  have hm := low_mark hled (fk_lt false (ai P.pt) false)
  have hl := wide1_len P.pt
  have h7 : f7 (kOf (wide1L P.pt)) = false := by unfold wide1L; rw [hk, f7_fk]
  have h6 : f6 (kOf (wide1L P.pt)) = ai P.pt := by unfold wide1L; rw [hk, f6_fk]
  have h5 : f5 (kOf (wide1L P.pt)) = false := by unfold wide1L; rw [hk, f5_fk]
  have hk' : kOf (wide1L P.pt) = fk false (ai P.pt) false := hk
  have hm' : low (wide1L P.pt) = xb1 P.pt ++ yb1 P.pt := hm
  clear hk hm
  cases hP : P.pt with
  | inf =>
    rw [hP] at h6 h5 h7 hl hm'
    exact pt1g_f_inf _ hl h7 h6 h5 (by rw [hm']; exact (show zeros (be 48 0 ++ be 48 0) = true by rw [zeros_app, zeros_be]; rfl))
  | aff x y =>
    rw [hP] at hk'
    have hw : wide1L P.pt = xb1 P.pt ++ yb1 P.pt := by
      rw [← hm', hP]
      exact (low_flat hk').symm
    have hg := pt1g_f_in (wide1L P.pt) hl h7 (h6.trans (by rw [hP]; rfl)) h5 P x y
    rw [hP] at hg hw
    rw [hw] at hg ⊢
    exact hg (xy1_of x y).1 (xy1_of x y).2 rfl hT
end

section
open Go.RowKit Cv
set_option maxRecDepth 20000
set_option maxHeartbeats 4000000
def xb2 (P : Pt Zq) : List UInt8 := be 48 (bx1 P) ++ be 48 (bx0 P)
def yb2 (P : Pt Zq) : List UInt8 := be 48 (by1 P) ++ be 48 (by0 P)
def put2L (P : Pt Zq) : List UInt8 := mark (fk true (bi P) (dHigh (by0 P) (by1 P))) (xb2 P)
def wide2L (P : Pt Zq) : List UInt8 := mark (fk false (bi P) false) (xb2 P ++ yb2 P)
theorem pt2put_q (P : E2) (hT : EP.times C2 rN P = EP.zero) (w : World) : Calls Tryz.prog 27 #[sv [.n 6 (bx0 P.pt), .n 6 (bx1 P.pt), .n 6 (by0 P.pt), .n 6 (by1 P.pt), .b (bi P.pt)]] w (Is (.tuple #[str ((put2L P.pt)), .int .i64 0]) w) := pt2put_in P hT w
theorem pt2wide_q (P : E2) (hT : EP.times C2 rN P = EP.zero) (w : World) : Calls Tryz.prog 28 #[sv [.n 6 (bx0 P.pt), .n 6 (bx1 P.pt), .n 6 (by0 P.pt), .n 6 (by1 P.pt), .b (bi P.pt)]] w (Is (.tuple #[str ((wide2L P.pt)), .int .i64 0]) w) := pt2wide_in P hT w
theorem xb2_len (P : Pt Zq) : (xb2 P).length = 96 := by unfold xb2; simp only [List.length_append, length_be]
theorem yb2_len (P : Pt Zq) : (yb2 P).length = 96 := by unfold yb2; simp only [List.length_append, length_be]
theorem put2_len (P : Pt Zq) : (put2L P).length = 96 := by unfold put2L; rw [length_mark, xb2_len]
theorem wide2_len (P : Pt Zq) : (wide2L P).length = 192 := by unfold wide2L; rw [length_mark, List.length_append, xb2_len, yb2_len]
theorem xb2_led (P : Pt Zq) : Led (xb2 P) := led_app (led_be (bx1_P P))
theorem x2_of (x : Zq) (m : List UInt8) : ch 0 ((be 48 x.im.val ++ be 48 x.re.val) ++ m) = x.im.val ∧ ch 1 ((be 48 x.im.val ++ be 48 x.re.val) ++ m) = x.re.val := by
  rw [List.append_assoc]
  exact ⟨by rw [ch_at0 _ _ (length_be _ _), bval_be48 x.im.isLt], by rw [ch_atS _ _ 0 (length_be _ _), ch_at0 _ _ (length_be _ _), bval_be48 x.re.isLt]⟩
theorem y2_of (x y : Zq) : ch 2 ((be 48 x.im.val ++ be 48 x.re.val) ++ (be 48 y.im.val ++ be 48 y.re.val)) = y.im.val ∧ ch 3 ((be 48 x.im.val ++ be 48 x.re.val) ++ (be 48 y.im.val ++ be 48 y.re.val)) = y.re.val := by
  have h := x2_of y []
  rw [List.append_nil] at h
  rw [List.append_assoc, ch_atS _ _ 1 (length_be _ _), ch_atS _ _ 0 (length_be _ _), ch_atS _ _ 2 (length_be _ _), ch_atS _ _ 1 (length_be _ _)]
  exact h
theorem back2_s (P : E2) (hT : EP.times C2 rN P = EP.zero) : (CI 17 #[str ((put2L P.pt))] (.tuple #[sv [.n 6 (bx0 P.pt), .n 6 (bx1 P.pt), .n 6 (by0 P.pt), .n 6 (by1 P.pt), .b (bi P.pt)], .int .i64 0])) := by
  have hk := kOf_mark (xb2_led P.pt) (fk_lt true (bi P.pt) (dHigh (by0 P.pt) (by1 P.pt)))
  have hm := low_mark (xb2_led P.pt) (fk_lt true (bi P.pt) (dHigh (by0 P.pt) (by1 P.pt)))
  have hl := put2_len P.pt
  have h7 : f7 (kOf (put2L P.pt)) = true := by unfold put2L; rw [hk, f7_fk]
  have h6 : f6 (kOf (put2L P.pt)) = bi P.pt := by unfold put2L; rw [hk, f6_fk]
  have h5 : f5 (kOf (put2L P.pt)) = (dHigh (by0 P.pt) (by1 P.pt)) := by unfold put2L; rw [hk, f5_fk]
  have hm' : low (put2L P.pt) = xb2 P.pt := hm
  clear hk hm
  cases hP : P.pt with
  | inf =>
    rw [hP] at h6 h5 h7 hl hm'
    have hz : dHigh 0 0 = false := dHigh_zero ⟨by decide +kernel, by decide +kernel⟩
    exact pt2g_s_inf _ hl h7 h6 (h5.trans hz) (by rw [hm']; exact (show zeros (be 48 0 ++ be 48 0) = true by rw [zeros_app, zeros_be]; rfl))
  | aff x y =>
    have hg := pt2g_s_in (put2L P.pt) hl h7 (h6.trans (by rw [hP]; rfl)) P x y hP
    rw [hP] at h5 hm' hg
    rw [hm'] at hg
    exact hg (by have h := (x2_of x []).1; rwa [List.append_nil] at h) (by have h := (x2_of x []).2; rwa [List.append_nil] at h) h5 hT
theorem back2_w (P : E2) (hT : EP.times C2 rN P = EP.zero) : (CI 17 #[str ((wide2L P.pt))] (.tuple #[sv [.n 6 (bx0 P.pt), .n 6 (bx1 P.pt), .n 6 (by0 P.pt), .n 6 (by1 P.pt), .b (bi P.pt)], .int .i64 0])) := by
  have hled := led_app (m := yb2 P.pt) (xb2_led P.pt)
  have hk := kOf_mark hled (fk_lt false (bi P.pt) false)
  have hm := low_mark hled (fk_lt false (bi P.pt) false)
  have hl := wide2_len P.pt
  have h7 : f7 (kOf (wide2L P.pt)) = false := by unfold wide2L; rw [hk, f7_fk]
  have h6 : f6 (kOf (wide2L P.pt)) = bi P.pt := by unfold wide2L; rw [hk, f6_fk]
  have h5 : f5 (kOf (wide2L P.pt)) = false := by unfold wide2L; rw [hk, f5_fk]
  have hk' : kOf (wide2L P.pt) = fk false (bi P.pt) false := hk
  have hm' : low (wide2L P.pt) = xb2 P.pt ++ yb2 P.pt := hm
  clear hk hm
  cases hP : P.pt with
  | inf =>
    rw [hP] at h6 h5 h7 hl hm'
    exact pt2g_f_inf _ hl h7 h6 h5 (by rw [hm']; exact (show zeros ((be 48 0 ++ be 48 0) ++ (be 48 0 ++ be 48 0)) = true by rw [zeros_app, zeros_app, zeros_be]; rfl))
  | aff x y =>
    rw [hP] at hk'
    have hw : wide2L P.pt = xb2 P.pt ++ yb2 P.pt := by
      rw [← hm', hP]
      exact (low_flat hk').symm
    have hg := pt2g_f_in (wide2L P.pt) hl h7 (h6.trans (by rw [hP]; rfl)) h5 P x y
    rw [hP] at hg hw
    rw [hw] at hg ⊢
    exact hg (x2_of x _).1 (x2_of x _).2 (y2_of x y).1 (y2_of x y).2 rfl hT
end
end

section
section
open Go.RowKit Cv
set_option maxRecDepth 20000
set_option maxHeartbeats 4000000
theorem ptalive_m (R : List UInt8) (hR : R.length = 48) (hP : CI 25 #[sv [.n 6 0, .n 6 0, .b true]] (.tuple #[str R, .int .i64 0])) (hg1 : CI 16 #[sv [.n 6 g1x, .n 6 g1y, .b false]] (.bool true)) (hg2 : CI 24 #[sv [.n 6 g2xa, .n 6 g2xb, .n 6 g2ya, .n 6 g2yb, .b false]] (.bool true)) (w : World) :
    Calls Tryz.prog 9 #[] w (Is (.bool true) w) := by
  go_enter Tryz.func9, Tryz.ntmps9
  refine rh0 (brf w) [0] [.bool false] ?_ ?_
  · exact stpa .nil
  intro w1 hb1 HB2
  refine rh0 HB2 [4, 5, 3, 6, 7, 1, 2] [sv [.n 6 0, .n 6 0, .b true], .tuple #[str R, .int .i64 0], .tuple #[str R, .int .i64 0], str R, .int .i64 0, str R, .int .i64 0] ?_ ?_
  · refine stpk Tryz.call32 (fun w h => oneZero_v _) ?_
    refine stpk Tryz.call25 (fun w h => hP _) ?_
    refine stpm ?_
    refine stpx (fun _ _ => ex_extract rfl rfl) ?_
    refine stpx (fun _ _ => ex_extract rfl rfl) ?_
    refine stpa ?_
    exact stpa .nil
  intro w3 hb3 HB4
  refine rh0 HB4 [8, 9, 10, 11, 12, 13, 14, 15, 16, 17, 18, 19, 20, 21, 22, 0] [.int .i64 0, .bool true, .bool true, str R, .int .i64 48, .bool true, .bool true, .bool true, sv [.n 6 g1x, .n 6 g1y, .b false], .bool true, .bool true, .bool true, sv [.n 6 g2xa, .n 6 g2xb, .n 6 g2ya, .n 6 g2yb, .b false], .bool true, .bool true, .bool true] ?_ ?_
  · refine stpm ?_
    refine stpx (fun _ _ => ex_eqi rfl rfl _ rfl) ?_
    refine stpm ?_
    refine stpm ?_
    refine stpx (fun _ _ => ex_lenL (l := R) (n := 48) rfl hR rfl) ?_
    refine stpx (fun _ _ => ex_eqi rfl rfl _ rfl) ?_
    refine stpx (fun _ _ => ex_pick (r := true) rfl) ?_
    refine stpm ?_
    refine stpk Tryz.call33 (fun w h => oneGen_v _) ?_
    refine stpk Tryz.call16 (fun w h => hg1 _) ?_
    refine stpx (fun _ _ => ex_pick (r := true) rfl) ?_
    refine stpm ?_
    refine stpk Tryz.call34 (fun w h => twoGen_v _) ?_
    refine stpk Tryz.call24 (fun w h => hg2 _) ?_
    refine stpx (fun _ _ => ex_pick (r := true) rfl) ?_
    exact stpa .nil
  intro w5 hb5 HB6
  exact wp_ret (bodyPost_ret (ret1 Tryz.results9 (res_tmp rfl)) rfl ⟨rfl, HB6⟩)
theorem ptalive_v (w : World) : Calls Tryz.prog 9 #[] w (Is (.bool true) w) := by
  refine ptalive_m (put1L (EP.zero : E1).pt) (put1_len _) (fun w => pt1put_q EP.zero (EP.times_zero C1 rN) w) (fun w => ?_) (fun w => ?_) w
  · rw [onegen_t]
    exact oneGroup_q G1 true ⟨fun _ => g1_order, fun _ => rfl⟩ w
  · rw [twogen_t]
    exact twoGroup_q G2 true ⟨fun _ => g2_order, fun _ => rfl⟩ w
end

section
open Go.RowKit Cv
set_option maxRecDepth 20000
set_option maxHeartbeats 4000000
theorem ptBack_ee (x y : Nat) (i : Bool) (_hx : x < fpB) (_hy : y < fpB) (p q r s : Nat) (j : Bool) (_hp : p < fpB) (_hq : q < fpB) (_hr : r < fpB) (_hs : s < fpB) (e : Int) (he : e ≠ 0) (hP1 : CI 25 #[sv [.n 6 x, .n 6 y, .b i]] (.tuple #[str [], .int .i64 e])) (hW1 : CI 26 #[sv [.n 6 x, .n 6 y, .b i]] (.tuple #[str [], .int .i64 e])) (f : Int) (hf : f ≠ 0) (hP2 : CI 27 #[sv [.n 6 p, .n 6 q, .n 6 r, .n 6 s, .b j]] (.tuple #[str [], .int .i64 f])) (hW2 : CI 28 #[sv [.n 6 p, .n 6 q, .n 6 r, .n 6 s, .b j]] (.tuple #[str [], .int .i64 f])) (w : World) :
    Calls Tryz.prog 5 #[sv [.n 6 x, .n 6 y, .b i], sv [.n 6 p, .n 6 q, .n 6 r, .n 6 s, .b j]] w (Is (.bool true) w) := by
  go_enter Tryz.func5, Tryz.ntmps5
  refine rh2 (brf w) 26 0 [.n 6 x, .n 6 y, .b i] 45 1 [.n 6 p, .n 6 q, .n 6 r, .n 6 s, .b j] [2, 3, 4] (fun γ => [pz (γ 0), pz (γ 1), .bool false]) ?_ ?_
  · refine stpb 0 (fun γ w h => ex_boxs (l := [.n 6 x, .n 6 y, .b i]) rfl) ?_
    refine stpb 1 (fun γ w h => ex_boxs (l := [.n 6 p, .n 6 q, .n 6 r, .n 6 s, .b j]) rfl) ?_
    exact stpa .nil
  intro γ1 w1 hb1 A2 A3 _ _ hn1 HB4
  refine rh0 HB4 [22, 23, 21, 24, 25, 5, 6] [sv [.n 6 x, .n 6 y, .b i], .tuple #[str [], .int .i64 e], .tuple #[str [], .int .i64 e], str [], .int .i64 e, str [], .int .i64 e] ?_ ?_
  · refine stpv (fun γ w h => ex_loads 0 3 (m := [.n 6 x, .n 6 y, .b i]) flG1 rfl rfl (A2.keep h.out) rfl rfl) ?_
    refine stpk Tryz.call25 (fun w h => hP1 _) ?_
    refine stpm ?_
    refine stpx (fun _ _ => ex_extract rfl rfl) ?_
    refine stpx (fun _ _ => ex_extract rfl rfl) ?_
    refine stpa ?_
    exact stpa .nil
  intro w5 hb5 HB8
  have A6 := A2.keep hb5.out
  have A7 := A3.keep hb5.out
  refine rh0 HB8 [27, 28, 26, 29, 30, 7, 8] [sv [.n 6 x, .n 6 y, .b i], .tuple #[str [], .int .i64 e], .tuple #[str [], .int .i64 e], str [], .int .i64 e, str [], .int .i64 e] ?_ ?_
  · refine stpv (fun γ w h => ex_loads 0 3 (m := [.n 6 x, .n 6 y, .b i]) flG1 rfl rfl (A6.keep h.out) rfl rfl) ?_
    refine stpk Tryz.call26 (fun w h => hW1 _) ?_
    refine stpm ?_
    refine stpx (fun _ _ => ex_extract rfl rfl) ?_
    refine stpx (fun _ _ => ex_extract rfl rfl) ?_
    refine stpa ?_
    exact stpa .nil
  intro w9 hb9 HB12
  have A11 := A7.keep hb9.out
  refine wp_seq ?_
  refine rh0 HB12 [31, 32] [.int .i64 e, .bool false] ?_ ?_
  · refine stpm ?_
    exact stpx (fun _ _ => ex_eqi rfl rfl false (by simp [he])) .nil
  intro w13 hb13 HB16
  have A15 := A11.keep hb13.out
  refine wp_cond_false rfl ?_
  refine wp_skip ?_
  refine th_r ?_
  refine rh0 HB16 [74, 75, 73, 76, 77, 13, 14] [sv [.n 6 p, .n 6 q, .n 6 r, .n 6 s, .b j], .tuple #[str [], .int .i64 f], .tuple #[str [], .int .i64 f], str [], .int .i64 f, str [], .int .i64 f] ?_ ?_
  · refine stpv (fun γ w h => ex_loads 0 5 (m := [.n 6 p, .n 6 q, .n 6 r, .n 6 s, .b j]) flG2 rfl rfl (A15.keep h.out) rfl rfl) ?_
    refine stpk Tryz.call27 (fun w h => hP2 _) ?_
    refine stpm ?_
    refine stpx (fun _ _ => ex_extract rfl rfl) ?_
    refine stpx (fun _ _ => ex_extract rfl rfl) ?_
    refine stpa ?_
    exact stpa .nil
  intro w17 hb17 HB20
  have A19 := A15.keep hb17.out
  refine rh0 HB20 [79, 80, 78, 81, 82, 15, 16] [sv [.n 6 p, .n 6 q, .n 6 r, .n 6 s, .b j], .tuple #[str [], .int .i64 f], .tuple #[str [], .int .i64 f], str [], .int .i64 f, str [], .int .i64 f] ?_ ?_
  · refine stpv (fun γ w h => ex_loads 0 5 (m := [.n 6 p, .n 6 q, .n 6 r, .n 6 s, .b j]) flG2 rfl rfl (A19.keep h.out) rfl rfl) ?_
    refine stpk Tryz.call28 (fun w h => hW2 _) ?_
    refine stpm ?_
    refine stpx (fun _ _ => ex_extract rfl rfl) ?_
    refine stpx (fun _ _ => ex_extract rfl rfl) ?_
    refine stpa ?_
    exact stpa .nil
  intro w21 hb21 HB24
  refine wp_seq ?_
  refine rh0 HB24 [83, 84] [.int .i64 f, .bool true] ?_ ?_
  · refine stpm ?_
    exact stpx (fun _ _ => ex_neqi rfl rfl true (by simp [hf])) .nil
  intro w25 hb25 HB28
  refine wp_cond_true rfl ?_
  refine rh0 HB28 [85, 86, 87, 88, 89, 90, 91, 92, 93, 94, 95, 4] [.bool true, .bool true, .int .i64 e, .int .i64 e, .bool true, .bool true, .bool true, .int .i64 f, .int .i64 f, .bool true, .bool true, .bool true] ?_ ?_
  · refine stpk Tryz.call9 (fun w h => ptalive_v _) ?_
    refine stpm ?_
    refine stpm ?_
    refine stpm ?_
    refine stpx (fun _ _ => ex_eqi rfl rfl true (by simp)) ?_
    refine stpx (fun _ _ => ex_pick (r := true) rfl) ?_
    refine stpm ?_
    refine stpm ?_
    refine stpm ?_
    refine stpx (fun _ _ => ex_eqi rfl rfl true (by simp)) ?_
    refine stpx (fun _ _ => ex_pick (r := true) rfl) ?_
    exact stpa .nil
  intro w29 hb29 HB32
  exact wp_ret (th_ret (bodyPost_ret (ret1 Tryz.results5 (res_tmp rfl)) rfl ⟨rfl, HB32⟩))
theorem ptBack_ek (x y : Nat) (i : Bool) (_hx : x < fpB) (_hy : y < fpB) (p q r s : Nat) (j : Bool) (hp : p < fpB) (hq : q < fpB) (hr : r < fpB) (hs : s < fpB) (e : Int) (he : e ≠ 0) (hP1 : CI 25 #[sv [.n 6 x, .n 6 y, .b i]] (.tuple #[str [], .int .i64 e])) (hW1 : CI 26 #[sv [.n 6 x, .n 6 y, .b i]] (.tuple #[str [], .int .i64 e])) (S2 T2 : List UInt8) (lS2 : S2.length = 96) (lT2 : T2.length = 192) (hP2 : CI 27 #[sv [.n 6 p, .n 6 q, .n 6 r, .n 6 s, .b j]] (.tuple #[str S2, .int .i64 0])) (hW2 : CI 28 #[sv [.n 6 p, .n 6 q, .n 6 r, .n 6 s, .b j]] (.tuple #[str T2, .int .i64 0])) (hG2 : CI 17 #[str S2] (.tuple #[sv [.n 6 p, .n 6 q, .n 6 r, .n 6 s, .b j], .int .i64 0])) (hH2 : CI 17 #[str T2] (.tuple #[sv [.n 6 p, .n 6 q, .n 6 r, .n 6 s, .b j], .int .i64 0])) (w : World) :
    Calls Tryz.prog 5 #[sv [.n 6 x, .n 6 y, .b i], sv [.n 6 p, .n 6 q, .n 6 r, .n 6 s, .b j]] w (Is (.bool true) w) := by
  go_enter Tryz.func5, Tryz.ntmps5
  refine rh2 (brf w) 26 0 [.n 6 x, .n 6 y, .b i] 45 1 [.n 6 p, .n 6 q, .n 6 r, .n 6 s, .b j] [2, 3, 4] (fun γ => [pz (γ 0), pz (γ 1), .bool false]) ?_ ?_
  · refine stpb 0 (fun γ w h => ex_boxs (l := [.n 6 x, .n 6 y, .b i]) rfl) ?_
    refine stpb 1 (fun γ w h => ex_boxs (l := [.n 6 p, .n 6 q, .n 6 r, .n 6 s, .b j]) rfl) ?_
    exact stpa .nil
  intro γ1 w1 hb1 A2 A3 _ _ hn1 HB4
  refine rh0 HB4 [22, 23, 21, 24, 25, 5, 6] [sv [.n 6 x, .n 6 y, .b i], .tuple #[str [], .int .i64 e], .tuple #[str [], .int .i64 e], str [], .int .i64 e, str [], .int .i64 e] ?_ ?_
  · refine stpv (fun γ w h => ex_loads 0 3 (m := [.n 6 x, .n 6 y, .b i]) flG1 rfl rfl (A2.keep h.out) rfl rfl) ?_
    refine stpk Tryz.call25 (fun w h => hP1 _) ?_
    refine stpm ?_
    refine stpx (fun _ _ => ex_extract rfl rfl) ?_
    refine stpx (fun _ _ => ex_extract rfl rfl) ?_
    refine stpa ?_
    exact stpa .nil
  intro w5 hb5 HB8
  have A6 := A2.keep hb5.out
  have A7 := A3.keep hb5.out
  refine rh0 HB8 [27, 28, 26, 29, 30, 7, 8] [sv [.n 6 x, .n 6 y, .b i], .tuple #[str [], .int .i64 e], .tuple #[str [], .int .i64 e], str [], .int .i64 e, str [], .int .i64 e] ?_ ?_
  · refine stpv (fun γ w h => ex_loads 0 3 (m := [.n 6 x, .n 6 y, .b i]) flG1 rfl rfl (A6.keep h.out) rfl rfl) ?_
    refine stpk Tryz.call26 (fun w h => hW1 _) ?_
    refine stpm ?_
    refine stpx (fun _ _ => ex_extract rfl rfl) ?_
    refine stpx (fun _ _ => ex_extract rfl rfl) ?_
    refine stpa ?_
    exact stpa .nil
  intro w9 hb9 HB12
  have A11 := A7.keep hb9.out
  refine wp_seq ?_
  refine rh0 HB12 [31, 32] [.int .i64 e, .bool false] ?_ ?_
  · refine stpm ?_
    exact stpx (fun _ _ => ex_eqi rfl rfl false (by simp [he])) .nil
  intro w13 hb13 HB16
  have A15 := A11.keep hb13.out
  refine wp_cond_false rfl ?_
  refine wp_skip ?_
  refine th_r ?_
  refine rh0 HB16 [74, 75, 73, 76, 77, 13, 14] [sv [.n 6 p, .n 6 q, .n 6 r, .n 6 s, .b j], .tuple #[str S2, .int .i64 0], .tuple #[str S2, .int .i64 0], str S2, .int .i64 0, str S2, .int .i64 0] ?_ ?_
  · refine stpv (fun γ w h => ex_loads 0 5 (m := [.n 6 p, .n 6 q, .n 6 r, .n 6 s, .b j]) flG2 rfl rfl (A15.keep h.out) rfl rfl) ?_
    refine stpk Tryz.call27 (fun w h => hP2 _) ?_
    refine stpm ?_
    refine stpx (fun _ _ => ex_extract rfl rfl) ?_
    refine stpx (fun _ _ => ex_extract rfl rfl) ?_
    refine stpa ?_
    exact stpa .nil
  intro w17 hb17 HB20
  have A19 := A15.keep hb17.out
  refine rh0 HB20 [79, 80, 78, 81, 82, 15, 16] [sv [.n 6 p, .n 6 q, .n 6 r, .n 6 s, .b j], .tuple #[str T2, .int .i64 0], .tuple #[str T2, .int .i64 0], str T2, .int .i64 0, str T2, .int .i64 0] ?_ ?_
  · refine stpv (fun γ w h => ex_loads 0 5 (m := [.n 6 p, .n 6 q, .n 6 r, .n 6 s, .b j]) flG2 rfl rfl (A19.keep h.out) rfl rfl) ?_
    refine stpk Tryz.call28 (fun w h => hW2 _) ?_
    refine stpm ?_
    refine stpx (fun _ _ => ex_extract rfl rfl) ?_
    refine stpx (fun _ _ => ex_extract rfl rfl) ?_
    refine stpa ?_
    exact stpa .nil
  intro w21 hb21 HB24
  have A23 := A19.keep hb21.out
  refine wp_seq ?_
  refine rh0 HB24 [83, 84] [.int .i64 0, .bool false] ?_ ?_
  · refine stpm ?_
    exact stpx (fun _ _ => ex_neqi rfl rfl _ rfl) .nil
  intro w25 hb25 HB28
  have A27 := A23.keep hb25.out
  refine wp_cond_false rfl ?_
  refine wp_skip ?_
  refine th_r ?_
  refine rhc HB28 [(45, 5, 6, [.n 6 0, .n 6 0, .n 6 0, .n 6 0, .b false], [.n 6 p, .n 6 q, .n 6 r, .n 6 s, .b j])] [97, 98, 96, 99, 100, 17, 18] (fun γ => [str S2, .tuple #[sv [.n 6 p, .n 6 q, .n 6 r, .n 6 s, .b j], .int .i64 0], .tuple #[sv [.n 6 p, .n 6 q, .n 6 r, .n 6 s, .b j], .int .i64 0], sv [.n 6 p, .n 6 q, .n 6 r, .n 6 s, .b j], .int .i64 0, pz (γ 0), .int .i64 0]) ?_ ?_
  · refine stpm ?_
    refine stpk Tryz.call17 (fun w h => hG2 _) ?_
    refine stpm ?_
    refine stpx (fun _ _ => ex_extract rfl rfl) ?_
    refine stpx (fun _ _ => ex_extract rfl rfl) ?_
    refine stpn 0 (fun γ w => ex_allocs (l := [.n 6 0, .n 6 0, .n 6 0, .n 6 0, .b false]) zG2) ?_
    refine stpq 0 0 5 flG2.2 ?_
    exact stpa .nil
  intro γ29 w29 hb29 hB29 _ HB33
  have A31 := A27.keep hb29.out
  have A32 : SB 45 w29 (γ29 0) [.n 6 p, .n 6 q, .n 6 r, .n 6 s, .b j] := (hB29 0 rfl).2
  refine rhc HB33 [(45, 5, 6, [.n 6 0, .n 6 0, .n 6 0, .n 6 0, .b false], [.n 6 p, .n 6 q, .n 6 r, .n 6 s, .b j])] [102, 103, 101, 104, 105, 19, 20] (fun γ => [str T2, .tuple #[sv [.n 6 p, .n 6 q, .n 6 r, .n 6 s, .b j], .int .i64 0], .tuple #[sv [.n 6 p, .n 6 q, .n 6 r, .n 6 s, .b j], .int .i64 0], sv [.n 6 p, .n 6 q, .n 6 r, .n 6 s, .b j], .int .i64 0, pz (γ 0), .int .i64 0]) ?_ ?_
  · refine stpm ?_
    refine stpk Tryz.call17 (fun w h => hH2 _) ?_
    refine stpm ?_
    refine stpx (fun _ _ => ex_extract rfl rfl) ?_
    refine stpx (fun _ _ => ex_extract rfl rfl) ?_
    refine stpn 0 (fun γ w => ex_allocs (l := [.n 6 0, .n 6 0, .n 6 0, .n 6 0, .b false]) zG2) ?_
    refine stpq 0 0 5 flG2.2 ?_
    exact stpa .nil
  intro γ34 w34 hb34 hB34 _ HB39
  have A36 := A31.keep hb34.out
  have A37 := A32.keep hb34.out
  have A38 : SB 45 w34 (γ34 0) [.n 6 p, .n 6 q, .n 6 r, .n 6 s, .b j] := (hB34 0 rfl).2
  refine rh0 HB39 [106, 107, 108, 109, 110, 111, 112, 113, 114, 115, 116, 117, 118, 119, 120, 121, 122, 123, 124, 125, 126, 127, 128, 129, 130, 131, 132, 133, 134, 135, 136, 137, 138, 139, 140, 141, 142, 143, 4] [.bool true, .bool true, .int .i64 e, .int .i64 e, .bool true, .bool true, .bool true, .int .i64 0, .bool true, .bool true, .bool true, .int .i64 0, .bool true, .bool true, .bool true, .int .i64 0, .bool true, .bool true, .bool true, sv [.n 6 p, .n 6 q, .n 6 r, .n 6 s, .b j], sv [.n 6 p, .n 6 q, .n 6 r, .n 6 s, .b j], .bool true, .bool true, .bool true, sv [.n 6 p, .n 6 q, .n 6 r, .n 6 s, .b j], sv [.n 6 p, .n 6 q, .n 6 r, .n 6 s, .b j], .bool true, .bool true, .bool true, str S2, .int .i64 96, .bool true, .bool true, .bool true, str T2, .int .i64 192, .bool true, .bool true, .bool true] ?_ ?_
  · refine stpk Tryz.call9 (fun w h => ptalive_v _) ?_
    refine stpm ?_
    refine stpm ?_
    refine stpm ?_
    refine stpx (fun _ _ => ex_eqi rfl rfl true (by simp)) ?_
    refine stpx (fun _ _ => ex_pick (r := true) rfl) ?_
    refine stpm ?_
    refine stpm ?_
    refine stpx (fun _ _ => ex_eqi rfl rfl _ rfl) ?_
    refine stpx (fun _ _ => ex_pick (r := true) rfl) ?_
    refine stpm ?_
    refine stpm ?_
    refine stpx (fun _ _ => ex_eqi rfl rfl _ rfl) ?_
    refine stpx (fun _ _ => ex_pick (r := true) rfl) ?_
    refine stpm ?_
    refine stpm ?_
    refine stpx (fun _ _ => ex_eqi rfl rfl _ rfl) ?_
    refine stpx (fun _ _ => ex_pick (r := true) rfl) ?_
    refine stpm ?_
    refine stpv (fun γ w h => ex_loads 0 5 (m := [.n 6 p, .n 6 q, .n 6 r, .n 6 s, .b j]) flG2 rfl rfl (A37.keep h.out) rfl rfl) ?_
    refine stpv (fun γ w h => ex_loads 0 5 (m := [.n 6 p, .n 6 q, .n 6 r, .n 6 s, .b j]) flG2 rfl rfl (A36.keep h.out) rfl rfl) ?_
    refine stpx (fun _ _ => ex_eqs gdG2 eqG2 rfl rfl rfl (shG2_of hp hq hr hs) (shG2_of hp hq hr hs) true (by simp)) ?_
    refine stpx (fun _ _ => ex_pick (r := true) rfl) ?_
    refine stpm ?_
    refine stpv (fun γ w h => ex_loads 0 5 (m := [.n 6 p, .n 6 q, .n 6 r, .n 6 s, .b j]) flG2 rfl rfl (A38.keep h.out) rfl rfl) ?_
    refine stpv (fun γ w h => ex_loads 0 5 (m := [.n 6 p, .n 6 q, .n 6 r, .n 6 s, .b j]) flG2 rfl rfl (A36.keep h.out) rfl rfl) ?_
    refine stpx (fun _ _ => ex_eqs gdG2 eqG2 rfl rfl rfl (shG2_of hp hq hr hs) (shG2_of hp hq hr hs) true (by simp)) ?_
    refine stpx (fun _ _ => ex_pick (r := true) rfl) ?_
    refine stpm ?_
    refine stpm ?_
    refine stpx (fun _ _ => ex_lenL (l := S2) (n := 96) rfl lS2 rfl) ?_
    refine stpx (fun _ _ => ex_eqi rfl rfl _ rfl) ?_
    refine stpx (fun _ _ => ex_pick (r := true) rfl) ?_
    refine stpm ?_
    refine stpm ?_
    refine stpx (fun _ _ => ex_lenL (l := T2) (n := 192) rfl lT2 rfl) ?_
    refine stpx (fun _ _ => ex_eqi rfl rfl _ rfl) ?_
    refine stpx (fun _ _ => ex_pick (r := true) rfl) ?_
    exact stpa .nil
  intro w40 hb40 HB45
  exact wp_ret (bodyPost_ret (ret1 Tryz.results5 (res_tmp rfl)) rfl ⟨rfl, HB45⟩)
theorem ptBack_ke (x y : Nat) (i : Bool) (hx : x < fpB) (hy : y < fpB) (p q r s : Nat) (j : Bool) (_hp : p < fpB) (_hq : q < fpB) (_hr : r < fpB) (_hs : s < fpB) (S1 T1 : List UInt8) (lS1 : S1.length = 48) (lT1 : T1.length = 96) (hP1 : CI 25 #[sv [.n 6 x, .n 6 y, .b i]] (.tuple #[str S1, .int .i64 0])) (hW1 : CI 26 #[sv [.n 6 x, .n 6 y, .b i]] (.tuple #[str T1, .int .i64 0])) (hG1 : CI 7 #[str S1] (.tuple #[sv [.n 6 x, .n 6 y, .b i], .int .i64 0])) (hH1 : CI 7 #[str T1] (.tuple #[sv [.n 6 x, .n 6 y, .b i], .int .i64 0])) (f : Int) (hf : f ≠ 0) (hP2 : CI 27 #[sv [.n 6 p, .n 6 q, .n 6 r, .n 6 s, .b j]] (.tuple #[str [], .int .i64 f])) (hW2 : CI 28 #[sv [.n 6 p, .n 6 q, .n 6 r, .n 6 s, .b j]] (.tuple #[str [], .int .i64 f])) (w : World) :
    Calls Tryz.prog 5 #[sv [.n 6 x, .n 6 y, .b i], sv [.n 6 p, .n 6 q, .n 6 r, .n 6 s, .b j]] w (Is (.bool true) w) := by
  go_enter Tryz.func5, Tryz.ntmps5
  refine rh2 (brf w) 26 0 [.n 6 x, .n 6 y, .b i] 45 1 [.n 6 p, .n 6 q, .n 6 r, .n 6 s, .b j] [2, 3, 4] (fun γ => [pz (γ 0), pz (γ 1), .bool false]) ?_ ?_
  · refine stpb 0 (fun γ w h => ex_boxs (l := [.n 6 x, .n 6 y, .b i]) rfl) ?_
    refine stpb 1 (fun γ w h => ex_boxs (l := [.n 6 p, .n 6 q, .n 6 r, .n 6 s, .b j]) rfl) ?_
    exact stpa .nil
  intro γ1 w1 hb1 A2 A3 _ _ hn1 HB4
  refine rh0 HB4 [22, 23, 21, 24, 25, 5, 6] [sv [.n 6 x, .n 6 y, .b i], .tuple #[str S1, .int .i64 0], .tuple #[str S1, .int .i64 0], str S1, .int .i64 0, str S1, .int .i64 0] ?_ ?_
  · refine stpv (fun γ w h => ex_loads 0 3 (m := [.n 6 x, .n 6 y, .b i]) flG1 rfl rfl (A2.keep h.out) rfl rfl) ?_
    refine stpk Tryz.call25 (fun w h => hP1 _) ?_
    refine stpm ?_
    refine stpx (fun _ _ => ex_extract rfl rfl) ?_
    refine stpx (fun _ _ => ex_extract rfl rfl) ?_
    refine stpa ?_
    exact stpa .nil
  intro w5 hb5 HB8
  have A6 := A2.keep hb5.out
  have A7 := A3.keep hb5.out
  refine rh0 HB8 [27, 28, 26, 29, 30, 7, 8] [sv [.n 6 x, .n 6 y, .b i], .tuple #[str T1, .int .i64 0], .tuple #[str T1, .int .i64 0], str T1, .int .i64 0, str T1, .int .i64 0] ?_ ?_
  · refine stpv (fun γ w h => ex_loads 0 3 (m := [.n 6 x, .n 6 y, .b i]) flG1 rfl rfl (A6.keep h.out) rfl rfl) ?_
    refine stpk Tryz.call26 (fun w h => hW1 _) ?_
    refine stpm ?_
    refine stpx (fun _ _ => ex_extract rfl rfl) ?_
    refine stpx (fun _ _ => ex_extract rfl rfl) ?_
    refine stpa ?_
    exact stpa .nil
  intro w9 hb9 HB12
  have A10 := A6.keep hb9.out
  have A11 := A7.keep hb9.out
  refine wp_seq ?_
  refine rh0 HB12 [31, 32] [.int .i64 0, .bool true] ?_ ?_
  · refine stpm ?_
    exact stpx (fun _ _ => ex_eqi rfl rfl _ rfl) .nil
  intro w13 hb13 HB16
  have A14 := A10.keep hb13.out
  have A15 := A11.keep hb13.out
  refine wp_cond_true rfl ?_
  refine rhc HB16 [(26, 5, 6, [.n 6 0, .n 6 0, .b false], [.n 6 x, .n 6 y, .b i])] [34, 35, 33, 36, 37, 9, 10] (fun γ => [str S1, .tuple #[sv [.n 6 x, .n 6 y, .b i], .int .i64 0], .tuple #[sv [.n 6 x, .n 6 y, .b i], .int .i64 0], sv [.n 6 x, .n 6 y, .b i], .int .i64 0, pz (γ 0), .int .i64 0]) ?_ ?_
  · refine stpm ?_
    refine stpk Tryz.call7 (fun w h => hG1 _) ?_
    refine stpm ?_
    refine stpx (fun _ _ => ex_extract rfl rfl) ?_
    refine stpx (fun _ _ => ex_extract rfl rfl) ?_
    refine stpn 0 (fun γ w => ex_allocs (l := [.n 6 0, .n 6 0, .b false]) zG1) ?_
    refine stpq 0 0 3 flG1.2 ?_
    exact stpa .nil
  intro γ17 w17 hb17 hB17 _ HB21
  have A18 := A14.keep hb17.out
  have A19 := A15.keep hb17.out
  have A20 : SB 26 w17 (γ17 0) [.n 6 x, .n 6 y, .b i] := (hB17 0 rfl).2
  refine rhc HB21 [(26, 5, 6, [.n 6 0, .n 6 0, .b false], [.n 6 x, .n 6 y, .b i])] [39, 40, 38, 41, 42, 11, 12] (fun γ => [str T1, .tuple #[sv [.n 6 x, .n 6 y, .b i], .int .i64 0], .tuple #[sv [.n 6 x, .n 6 y, .b i], .int .i64 0], sv [.n 6 x, .n 6 y, .b i], .int .i64 0, pz (γ 0), .int .i64 0]) ?_ ?_
  · refine stpm ?_
    refine stpk Tryz.call7 (fun w h => hH1 _) ?_
    refine stpm ?_
    refine stpx (fun _ _ => ex_extract rfl rfl) ?_
    refine stpx (fun _ _ => ex_extract rfl rfl) ?_
    refine stpn 0 (fun γ w => ex_allocs (l := [.n 6 0, .n 6 0, .b false]) zG1) ?_
    refine stpq 0 0 3 flG1.2 ?_
    exact stpa .nil
  intro γ22 w22 hb22 hB22 _ HB27
  have A23 := A18.keep hb22.out
  have A24 := A19.keep hb22.out
  have A25 := A20.keep hb22.out
  have A26 : SB 26 w22 (γ22 0) [.n 6 x, .n 6 y, .b i] := (hB22 0 rfl).2
  refine rh0 HB27 [43, 44, 45, 46, 47, 48, 49, 50, 51, 52, 53, 54, 55, 56, 57, 58, 59, 60, 61, 62, 63, 64, 65, 66, 67, 68, 69, 70, 71, 72] [.int .i64 0, .bool false, .bool false, .int .i64 0, .bool false, .bool false, .bool false, .int .i64 0, .bool false, .bool false, .bool false, sv [.n 6 x, .n 6 y, .b i], sv [.n 6 x, .n 6 y, .b i], .bool false, .bool false, .bool false, sv [.n 6 x, .n 6 y, .b i], sv [.n 6 x, .n 6 y, .b i], .bool false, .bool false, .bool false, str S1, .int .i64 48, .bool false, .bool false, .bool false, str T1, .int .i64 96, .bool false, .bool false] ?_ ?_
  · refine stpm ?_
    refine stpx (fun _ _ => ex_neqi rfl rfl _ rfl) ?_
    refine stpm ?_
    refine stpm ?_
    refine stpx (fun _ _ => ex_neqi rfl rfl _ rfl) ?_
    refine stpx (fun _ _ => ex_pick (r := false) rfl) ?_
    refine stpm ?_
    refine stpm ?_
    refine stpx (fun _ _ => ex_neqi rfl rfl _ rfl) ?_
    refine stpx (fun _ _ => ex_pick (r := false) rfl) ?_
    refine stpm ?_
    refine stpv (fun γ w h => ex_loads 0 3 (m := [.n 6 x, .n 6 y, .b i]) flG1 rfl rfl (A25.keep h.out) rfl rfl) ?_
    refine stpv (fun γ w h => ex_loads 0 3 (m := [.n 6 x, .n 6 y, .b i]) flG1 rfl rfl (A23.keep h.out) rfl rfl) ?_
    refine stpx (fun _ _ => ex_neqs gdG1 eqG1 rfl rfl rfl (shG1_of hx hy) (shG1_of hx hy) false (by simp)) ?_
    refine stpx (fun _ _ => ex_pick (r := false) rfl) ?_
    refine stpm ?_
    refine stpv (fun γ w h => ex_loads 0 3 (m := [.n 6 x, .n 6 y, .b i]) flG1 rfl rfl (A26.keep h.out) rfl rfl) ?_
    refine stpv (fun γ w h => ex_loads 0 3 (m := [.n 6 x, .n 6 y, .b i]) flG1 rfl rfl (A23.keep h.out) rfl rfl) ?_
    refine stpx (fun _ _ => ex_neqs gdG1 eqG1 rfl rfl rfl (shG1_of hx hy) (shG1_of hx hy) false (by simp)) ?_
    refine stpx (fun _ _ => ex_pick (r := false) rfl) ?_
    refine stpm ?_
    refine stpm ?_
    refine stpx (fun _ _ => ex_lenL (l := S1) (n := 48) rfl lS1 rfl) ?_
    refine stpx (fun _ _ => ex_neqi rfl rfl _ rfl) ?_
    refine stpx (fun _ _ => ex_pick (r := false) rfl) ?_
    refine stpm ?_
    refine stpm ?_
    refine stpx (fun _ _ => ex_lenL (l := T1) (n := 96) rfl lT1 rfl) ?_
    refine stpx (fun _ _ => ex_neqi rfl rfl _ rfl) ?_
    exact stpx (fun _ _ => ex_pick (r := false) rfl) .nil
  intro w28 hb28 HB33
  have A30 := A24.keep hb28.out
  refine wp_cond_false rfl ?_
  refine wp_skip ?_
  refine th_r ?_
  refine rh0 HB33 [74, 75, 73, 76, 77, 13, 14] [sv [.n 6 p, .n 6 q, .n 6 r, .n 6 s, .b j], .tuple #[str [], .int .i64 f], .tuple #[str [], .int .i64 f], str [], .int .i64 f, str [], .int .i64 f] ?_ ?_
  · refine stpv (fun γ w h => ex_loads 0 5 (m := [.n 6 p, .n 6 q, .n 6 r, .n 6 s, .b j]) flG2 rfl rfl (A30.keep h.out) rfl rfl) ?_
    refine stpk Tryz.call27 (fun w h => hP2 _) ?_
    refine stpm ?_
    refine stpx (fun _ _ => ex_extract rfl rfl) ?_
    refine stpx (fun _ _ => ex_extract rfl rfl) ?_
    refine stpa ?_
    exact stpa .nil
  intro w34 hb34 HB39
  have A36 := A30.keep hb34.out
  refine rh0 HB39 [79, 80, 78, 81, 82, 15, 16] [sv [.n 6 p, .n 6 q, .n 6 r, .n 6 s, .b j], .tuple #[str [], .int .i64 f], .tuple #[str [], .int .i64 f], str [], .int .i64 f, str [], .int .i64 f] ?_ ?_
  · refine stpv (fun γ w h => ex_loads 0 5 (m := [.n 6 p, .n 6 q, .n 6 r, .n 6 s, .b j]) flG2 rfl rfl (A36.keep h.out) rfl rfl) ?_
    refine stpk Tryz.call28 (fun w h => hW2 _) ?_
    refine stpm ?_
    refine stpx (fun _ _ => ex_extract rfl rfl) ?_
    refine stpx (fun _ _ => ex_extract rfl rfl) ?_
    refine stpa ?_
    exact stpa .nil
  intro w40 hb40 HB45
  refine wp_seq ?_
  refine rh0 HB45 [83, 84] [.int .i64 f, .bool true] ?_ ?_
  · refine stpm ?_
    exact stpx (fun _ _ => ex_neqi rfl rfl true (by simp [hf])) .nil
  intro w46 hb46 HB51
  refine wp_cond_true rfl ?_
  refine rh0 HB51 [85, 86, 87, 88, 89, 90, 91, 92, 93, 94, 95, 4] [.bool true, .bool true, .int .i64 0, .int .i64 0, .bool true, .bool true, .bool true, .int .i64 f, .int .i64 f, .bool true, .bool true, .bool true] ?_ ?_
  · refine stpk Tryz.call9 (fun w h => ptalive_v _) ?_
    refine stpm ?_
    refine stpm ?_
    refine stpm ?_
    refine stpx (fun _ _ => ex_eqi rfl rfl _ rfl) ?_
    refine stpx (fun _ _ => ex_pick (r := true) rfl) ?_
    refine stpm ?_
    refine stpm ?_
    refine stpm ?_
    refine stpx (fun _ _ => ex_eqi rfl rfl true (by simp)) ?_
    refine stpx (fun _ _ => ex_pick (r := true) rfl) ?_
    exact stpa .nil
  intro w52 hb52 HB57
  exact wp_ret (th_ret (bodyPost_ret (ret1 Tryz.results5 (res_tmp rfl)) rfl ⟨rfl, HB57⟩))
theorem ptBack_kk (x y : Nat) (i : Bool) (hx : x < fpB) (hy : y < fpB) (p q r s : Nat) (j : Bool) (hp : p < fpB) (hq : q < fpB) (hr : r < fpB) (hs : s < fpB) (S1 T1 : List UInt8) (lS1 : S1.length = 48) (lT1 : T1.length = 96) (hP1 : CI 25 #[sv [.n 6 x, .n 6 y, .b i]] (.tuple #[str S1, .int .i64 0])) (hW1 : CI 26 #[sv [.n 6 x, .n 6 y, .b i]] (.tuple #[str T1, .int .i64 0])) (hG1 : CI 7 #[str S1] (.tuple #[sv [.n 6 x, .n 6 y, .b i], .int .i64 0])) (hH1 : CI 7 #[str T1] (.tuple #[sv [.n 6 x, .n 6 y, .b i], .int .i64 0])) (S2 T2 : List UInt8) (lS2 : S2.length = 96) (lT2 : T2.length = 192) (hP2 : CI 27 #[sv [.n 6 p, .n 6 q, .n 6 r, .n 6 s, .b j]] (.tuple #[str S2, .int .i64 0])) (hW2 : CI 28 #[sv [.n 6 p, .n 6 q, .n 6 r, .n 6 s, .b j]] (.tuple #[str T2, .int .i64 0])) (hG2 : CI 17 #[str S2] (.tuple #[sv [.n 6 p, .n 6 q, .n 6 r, .n 6 s, .b j], .int .i64 0])) (hH2 : CI 17 #[str T2] (.tuple #[sv [.n 6 p, .n 6 q, .n 6 r, .n 6 s, .b j], .int .i64 0])) (w : World) :
    Calls Tryz.prog 5 #[sv [.n 6 x, .n 6 y, .b i], sv [.n 6 p, .n 6 q, .n 6 r, .n 6 s, .b j]] w (Is (.bool true) w) := by
  go_enter Tryz.func5, Tryz.ntmps5
  refine rh2 (brf w) 26 0 [.n 6 x, .n 6 y, .b i] 45 1 [.n 6 p, .n 6 q, .n 6 r, .n 6 s, .b j] [2, 3, 4] (fun γ => [pz (γ 0), pz (γ 1), .bool false]) ?_ ?_
  · refine stpb 0 (fun γ w h => ex_boxs (l := [.n 6 x, .n 6 y, .b i]) rfl) ?_
    refine stpb 1 (fun γ w h => ex_boxs (l := [.n 6 p, .n 6 q, .n 6 r, .n 6 s, .b j]) rfl) ?_
    exact stpa .nil
  intro γ1 w1 hb1 A2 A3 _ _ hn1 HB4
  refine rh0 HB4 [22, 23, 21, 24, 25, 5, 6] [sv [.n 6 x, .n 6 y, .b i], .tuple #[str S1, .int .i64 0], .tuple #[str S1, .int .i64 0], str S1, .int .i64 0, str S1, .int .i64 0] ?_ ?_
  · refine stpv (fun γ w h => ex_loads 0 3 (m := [.n 6 x, .n 6 y, .b i]) flG1 rfl rfl (A2.keep h.out) rfl rfl) ?_
    refine stpk Tryz.call25 (fun w h => hP1 _) ?_
    refine stpm ?_
    refine stpx (fun _ _ => ex_extract rfl rfl) ?_
    refine stpx (fun _ _ => ex_extract rfl rfl) ?_
    refine stpa ?_
    exact stpa .nil
  intro w5 hb5 HB8
  have A6 := A2.keep hb5.out
  have A7 := A3.keep hb5.out
  refine rh0 HB8 [27, 28, 26, 29, 30, 7, 8] [sv [.n 6 x, .n 6 y, .b i], .tuple #[str T1, .int .i64 0], .tuple #[str T1, .int .i64 0], str T1, .int .i64 0, str T1, .int .i64 0] ?_ ?_
  · refine stpv (fun γ w h => ex_loads 0 3 (m := [.n 6 x, .n 6 y, .b i]) flG1 rfl rfl (A6.keep h.out) rfl rfl) ?_
    refine stpk Tryz.call26 (fun w h => hW1 _) ?_
    refine stpm ?_
    refine stpx (fun _ _ => ex_extract rfl rfl) ?_
    refine stpx (fun _ _ => ex_extract rfl rfl) ?_
    refine stpa ?_
    exact stpa .nil
  intro w9 hb9 HB12
  have A10 := A6.keep hb9.out
  have A11 := A7.keep hb9.out
  refine wp_seq ?_
  refine rh0 HB12 [31, 32] [.int .i64 0, .bool true] ?_ ?_
  · refine stpm ?_
    exact stpx (fun _ _ => ex_eqi rfl rfl _ rfl) .nil
  intro w13 hb13 HB16
  have A14 := A10.keep hb13.out
  have A15 := A11.keep hb13.out
  refine wp_cond_true rfl ?_
  refine rhc HB16 [(26, 5, 6, [.n 6 0, .n 6 0, .b false], [.n 6 x, .n 6 y, .b i])] [34, 35, 33, 36, 37, 9, 10] (fun γ => [str S1, .tuple #[sv [.n 6 x, .n 6 y, .b i], .int .i64 0], .tuple #[sv [.n 6 x, .n 6 y, .b i], .int .i64 0], sv [.n 6 x, .n 6 y, .b i], .int .i64 0, pz (γ 0), .int .i64 0]) ?_ ?_
  · refine stpm ?_
    refine stpk Tryz.call7 (fun w h => hG1 _) ?_
    refine stpm ?_
    refine stpx (fun _ _ => ex_extract rfl rfl) ?_
    refine stpx (fun _ _ => ex_extract rfl rfl) ?_
    refine stpn 0 (fun γ w => ex_allocs (l := [.n 6 0, .n 6 0, .b false]) zG1) ?_
    refine stpq 0 0 3 flG1.2 ?_
    exact stpa .nil
  intro γ17 w17 hb17 hB17 _ HB21
  have A18 := A14.keep hb17.out
  have A19 := A15.keep hb17.out
  have A20 : SB 26 w17 (γ17 0) [.n 6 x, .n 6 y, .b i] := (hB17 0 rfl).2
  refine rhc HB21 [(26, 5, 6, [.n 6 0, .n 6 0, .b false], [.n 6 x, .n 6 y, .b i])] [39, 40, 38, 41, 42, 11, 12] (fun γ => [str T1, .tuple #[sv [.n 6 x, .n 6 y, .b i], .int .i64 0], .tuple #[sv [.n 6 x, .n 6 y, .b i], .int .i64 0], sv [.n 6 x, .n 6 y, .b i], .int .i64 0, pz (γ 0), .int .i64 0]) ?_ ?_
  · refine stpm ?_
    refine stpk Tryz.call7 (fun w h => hH1 _) ?_
    refine stpm ?_
    refine stpx (fun _ _ => ex_extract rfl rfl) ?_
    refine stpx (fun _ _ => ex_extract rfl rfl) ?_
    refine stpn 0 (fun γ w => ex_allocs (l := [.n 6 0, .n 6 0, .b false]) zG1) ?_
    refine stpq 0 0 3 flG1.2 ?_
    exact stpa .nil
  intro γ22 w22 hb22 hB22 _ HB27
  have A23 := A18.keep hb22.out
  have A24 := A19.keep hb22.out
  have A25 := A20.keep hb22.out
  have A26 : SB 26 w22 (γ22 0) [.n 6 x, .n 6 y, .b i] := (hB22 0 rfl).2
  refine rh0 HB27 [43, 44, 45, 46, 47, 48, 49, 50, 51, 52, 53, 54, 55, 56, 57, 58, 59, 60, 61, 62, 63, 64, 65, 66, 67, 68, 69, 70, 71, 72] [.int .i64 0, .bool false, .bool false, .int .i64 0, .bool false, .bool false, .bool false, .int .i64 0, .bool false, .bool false, .bool false, sv [.n 6 x, .n 6 y, .b i], sv [.n 6 x, .n 6 y, .b i], .bool false, .bool false, .bool false, sv [.n 6 x, .n 6 y, .b i], sv [.n 6 x, .n 6 y, .b i], .bool false, .bool false, .bool false, str S1, .int .i64 48, .bool false, .bool false, .bool false, str T1, .int .i64 96, .bool false, .bool false] ?_ ?_
  · refine stpm ?_
    refine stpx (fun _ _ => ex_neqi rfl rfl _ rfl) ?_
    refine stpm ?_
    refine stpm ?_
    refine stpx (fun _ _ => ex_neqi rfl rfl _ rfl) ?_
    refine stpx (fun _ _ => ex_pick (r := false) rfl) ?_
    refine stpm ?_
    refine stpm ?_
    refine stpx (fun _ _ => ex_neqi rfl rfl _ rfl) ?_
    refine stpx (fun _ _ => ex_pick (r := false) rfl) ?_
    refine stpm ?_
    refine stpv (fun γ w h => ex_loads 0 3 (m := [.n 6 x, .n 6 y, .b i]) flG1 rfl rfl (A25.keep h.out) rfl rfl) ?_
    refine stpv (fun γ w h => ex_loads 0 3 (m := [.n 6 x, .n 6 y, .b i]) flG1 rfl rfl (A23.keep h.out) rfl rfl) ?_
    refine stpx (fun _ _ => ex_neqs gdG1 eqG1 rfl rfl rfl (shG1_of hx hy) (shG1_of hx hy) false (by simp)) ?_
    refine stpx (fun _ _ => ex_pick (r := false) rfl) ?_
    refine stpm ?_
    refine stpv (fun γ w h => ex_loads 0 3 (m := [.n 6 x, .n 6 y, .b i]) flG1 rfl rfl (A26.keep h.out) rfl rfl) ?_
    refine stpv (fun γ w h => ex_loads 0 3 (m := [.n 6 x, .n 6 y, .b i]) flG1 rfl rfl (A23.keep h.out) rfl rfl) ?_
    refine stpx (fun _ _ => ex_neqs gdG1 eqG1 rfl rfl rfl (shG1_of hx hy) (shG1_of hx hy) false (by simp)) ?_
    refine stpx (fun _ _ => ex_pick (r := false) rfl) ?_
    refine stpm ?_
    refine stpm ?_
    refine stpx (fun _ _ => ex_lenL (l := S1) (n := 48) rfl lS1 rfl) ?_
    refine stpx (fun _ _ => ex_neqi rfl rfl _ rfl) ?_
    refine stpx (fun _ _ => ex_pick (r := false) rfl) ?_
    refine stpm ?_
    refine stpm ?_
    refine stpx (fun _ _ => ex_lenL (l := T1) (n := 96) rfl lT1 rfl) ?_
    refine stpx (fun _ _ => ex_neqi rfl rfl _ rfl) ?_
    exact stpx (fun _ _ => ex_pick (r := false) rfl) .nil
  intro w28 hb28 HB33
  have A30 := A24.keep hb28.out
  refine wp_cond_false rfl ?_
  refine wp_skip ?_
  refine th_r ?_
  refine rh0 HB33 [74, 75, 73, 76, 77, 13, 14] [sv [.n 6 p, .n 6 q, .n 6 r, .n 6 s, .b j], .tuple #[str S2, .int .i64 0], .tuple #[str S2, .int .i64 0], str S2, .int .i64 0, str S2, .int .i64 0] ?_ ?_
  · refine stpv (fun γ w h => ex_loads 0 5 (m := [.n 6 p, .n 6 q, .n 6 r, .n 6 s, .b j]) flG2 rfl rfl (A30.keep h.out) rfl rfl) ?_
    refine stpk Tryz.call27 (fun w h => hP2 _) ?_
    refine stpm ?_
    refine stpx (fun _ _ => ex_extract rfl rfl) ?_
    refine stpx (fun _ _ => ex_extract rfl rfl) ?_
    refine stpa ?_
    exact stpa .nil
  intro w34 hb34 HB39
  have A36 := A30.keep hb34.out
  refine rh0 HB39 [79, 80, 78, 81, 82, 15, 16] [sv [.n 6 p, .n 6 q, .n 6 r, .n 6 s, .b j], .tuple #[str T2, .int .i64 0], .tuple #[str T2, .int .i64 0], str T2, .int .i64 0, str T2, .int .i64 0] ?_ ?_
  · refine stpv (fun γ w h => ex_loads 0 5 (m := [.n 6 p, .n 6 q, .n 6 r, .n 6 s, .b j]) flG2 rfl rfl (A36.keep h.out) rfl rfl) ?_
    refine stpk Tryz.call28 (fun w h => hW2 _) ?_
    refine stpm ?_
    refine stpx (fun _ _ => ex_extract rfl rfl) ?_
    refine stpx (fun _ _ => ex_extract rfl rfl) ?_
    refine stpa ?_
    exact stpa .nil
  intro w40 hb40 HB45
  have A42 := A36.keep hb40.out
  refine wp_seq ?_
  refine rh0 HB45 [83, 84] [.int .i64 0, .bool false] ?_ ?_
  · refine stpm ?_
    exact stpx (fun _ _ => ex_neqi rfl rfl _ rfl) .nil
  intro w46 hb46 HB51
  have A48 := A42.keep hb46.out
  refine wp_cond_false rfl ?_
  refine wp_skip ?_
  refine th_r ?_
  refine rhc HB51 [(45, 5, 6, [.n 6 0, .n 6 0, .n 6 0, .n 6 0, .b false], [.n 6 p, .n 6 q, .n 6 r, .n 6 s, .b j])] [97, 98, 96, 99, 100, 17, 18] (fun γ => [str S2, .tuple #[sv [.n 6 p, .n 6 q, .n 6 r, .n 6 s, .b j], .int .i64 0], .tuple #[sv [.n 6 p, .n 6 q, .n 6 r, .n 6 s, .b j], .int .i64 0], sv [.n 6 p, .n 6 q, .n 6 r, .n 6 s, .b j], .int .i64 0, pz (γ 0), .int .i64 0]) ?_ ?_
  · refine stpm ?_
    refine stpk Tryz.call17 (fun w h => hG2 _) ?_
    refine stpm ?_
    refine stpx (fun _ _ => ex_extract rfl rfl) ?_
    refine stpx (fun _ _ => ex_extract rfl rfl) ?_
    refine stpn 0 (fun γ w => ex_allocs (l := [.n 6 0, .n 6 0, .n 6 0, .n 6 0, .b false]) zG2) ?_
    refine stpq 0 0 5 flG2.2 ?_
    exact stpa .nil
  intro γ52 w52 hb52 hB52 _ HB58
  have A54 := A48.keep hb52.out
  have A57 : SB 45 w52 (γ52 0) [.n 6 p, .n 6 q, .n 6 r, .n 6 s, .b j] := (hB52 0 rfl).2
  refine rhc HB58 [(45, 5, 6, [.n 6 0, .n 6 0, .n 6 0, .n 6 0, .b false], [.n 6 p, .n 6 q, .n 6 r, .n 6 s, .b j])] [102, 103, 101, 104, 105, 19, 20] (fun γ => [str T2, .tuple #[sv [.n 6 p, .n 6 q, .n 6 r, .n 6 s, .b j], .int .i64 0], .tuple #[sv [.n 6 p, .n 6 q, .n 6 r, .n 6 s, .b j], .int .i64 0], sv [.n 6 p, .n 6 q, .n 6 r, .n 6 s, .b j], .int .i64 0, pz (γ 0), .int .i64 0]) ?_ ?_
  · refine stpm ?_
    refine stpk Tryz.call17 (fun w h => hH2 _) ?_
    refine stpm ?_
    refine stpx (fun _ _ => ex_extract rfl rfl) ?_
    refine stpx (fun _ _ => ex_extract rfl rfl) ?_
    refine stpn 0 (fun γ w => ex_allocs (l := [.n 6 0, .n 6 0, .n 6 0, .n 6 0, .b false]) zG2) ?_
    refine stpq 0 0 5 flG2.2 ?_
    exact stpa .nil
  intro γ59 w59 hb59 hB59 _ HB66
  have A61 := A54.keep hb59.out
  have A64 := A57.keep hb59.out
  have A65 : SB 45 w59 (γ59 0) [.n 6 p, .n 6 q, .n 6 r, .n 6 s, .b j] := (hB59 0 rfl).2
  refine rh0 HB66 [106, 107, 108, 109, 110, 111, 112, 113, 114, 115, 116, 117, 118, 119, 120, 121, 122, 123, 124, 125, 126, 127, 128, 129, 130, 131, 132, 133, 134, 135, 136, 137, 138, 139, 140, 141, 142, 143, 4] [.bool true, .bool true, .int .i64 0, .int .i64 0, .bool true, .bool true, .bool true, .int .i64 0, .bool true, .bool true, .bool true, .int .i64 0, .bool true, .bool true, .bool true, .int .i64 0, .bool true, .bool true, .bool true, sv [.n 6 p, .n 6 q, .n 6 r, .n 6 s, .b j], sv [.n 6 p, .n 6 q, .n 6 r, .n 6 s, .b j], .bool true, .bool true, .bool true, sv [.n 6 p, .n 6 q, .n 6 r, .n 6 s, .b j], sv [.n 6 p, .n 6 q, .n 6 r, .n 6 s, .b j], .bool true, .bool true, .bool true, str S2, .int .i64 96, .bool true, .bool true, .bool true, str T2, .int .i64 192, .bool true, .bool true, .bool true] ?_ ?_
  · refine stpk Tryz.call9 (fun w h => ptalive_v _) ?_
    refine stpm ?_
    refine stpm ?_
    refine stpm ?_
    refine stpx (fun _ _ => ex_eqi rfl rfl _ rfl) ?_
    refine stpx (fun _ _ => ex_pick (r := true) rfl) ?_
    refine stpm ?_
    refine stpm ?_
    refine stpx (fun _ _ => ex_eqi rfl rfl _ rfl) ?_
    refine stpx (fun _ _ => ex_pick (r := true) rfl) ?_
    refine stpm ?_
    refine stpm ?_
    refine stpx (fun _ _ => ex_eqi rfl rfl _ rfl) ?_
    refine stpx (fun _ _ => ex_pick (r := true) rfl) ?_
    refine stpm ?_
    refine stpm ?_
    refine stpx (fun _ _ => ex_eqi rfl rfl _ rfl) ?_
    refine stpx (fun _ _ => ex_pick (r := true) rfl) ?_
    refine stpm ?_
    refine stpv (fun γ w h => ex_loads 0 5 (m := [.n 6 p, .n 6 q, .n 6 r, .n 6 s, .b j]) flG2 rfl rfl (A64.keep h.out) rfl rfl) ?_
    refine stpv (fun γ w h => ex_loads 0 5 (m := [.n 6 p, .n 6 q, .n 6 r, .n 6 s, .b j]) flG2 rfl rfl (A61.keep h.out) rfl rfl) ?_
    refine stpx (fun _ _ => ex_eqs gdG2 eqG2 rfl rfl rfl (shG2_of hp hq hr hs) (shG2_of hp hq hr hs) true (by simp)) ?_
    refine stpx (fun _ _ => ex_pick (r := true) rfl) ?_
    refine stpm ?_
    refine stpv (fun γ w h => ex_loads 0 5 (m := [.n 6 p, .n 6 q, .n 6 r, .n 6 s, .b j]) flG2 rfl rfl (A65.keep h.out) rfl rfl) ?_
    refine stpv (fun γ w h => ex_loads 0 5 (m := [.n 6 p, .n 6 q, .n 6 r, .n 6 s, .b j]) flG2 rfl rfl (A61.keep h.out) rfl rfl) ?_
    refine stpx (fun _ _ => ex_eqs gdG2 eqG2 rfl rfl rfl (shG2_of hp hq hr hs) (shG2_of hp hq hr hs) true (by simp)) ?_
    refine stpx (fun _ _ => ex_pick (r := true) rfl) ?_
    refine stpm ?_
    refine stpm ?_
    refine stpx (fun _ _ => ex_lenL (l := S2) (n := 96) rfl lS2 rfl) ?_
    refine stpx (fun _ _ => ex_eqi rfl rfl _ rfl) ?_
    refine stpx (fun _ _ => ex_pick (r := true) rfl) ?_
    refine stpm ?_
    refine stpm ?_
    refine stpx (fun _ _ => ex_lenL (l := T2) (n := 192) rfl lT2 rfl) ?_
    refine stpx (fun _ _ => ex_eqi rfl rfl _ rfl) ?_
    refine stpx (fun _ _ => ex_pick (r := true) rfl) ?_
    exact stpa .nil
  intro w67 hb67 HB74
  exact wp_ret (bodyPost_ret (ret1 Tryz.results5 (res_tmp rfl)) rfl ⟨rfl, HB74⟩)
theorem ptput1_or (x y : Nat) (i : Bool) (hx : x < fpB) (hy : y < fpB) : (∃ e : Int, e ≠ 0 ∧ (CI 25 #[sv [.n 6 x, .n 6 y, .b i]] (.tuple #[str [], .int .i64 e])) ∧ (CI 26 #[sv [.n 6 x, .n 6 y, .b i]] (.tuple #[str [], .int .i64 e]))) ∨
    ∃ S_ T_ : List UInt8, S_.length = 48 ∧ T_.length = 96 ∧ (CI 25 #[sv [.n 6 x, .n 6 y, .b i]] (.tuple #[str S_, .int .i64 0])) ∧ (CI 26 #[sv [.n 6 x, .n 6 y, .b i]] (.tuple #[str T_, .int .i64 0])) ∧ (CI 7 #[str S_] (.tuple #[sv [.n 6 x, .n 6 y, .b i], .int .i64 0])) ∧ (CI 7 #[str T_] (.tuple #[sv [.n 6 x, .n 6 y, .b i], .int .i64 0])) := by
  by_cases o : RawOk x y i
  · obtain ⟨P, rfl, rfl, rfl⟩ := o
    by_cases hT : EP.times C1 rN P = EP.zero
    · exact .inr ⟨put1L P.pt, wide1L P.pt, put1_len _, wide1_len _, pt1put_q P hT, pt1wide_q P hT, back1_s P hT, back1_w P hT⟩
    · exact .inl ⟨31, by decide, pt1put_out P hT, pt1wide_out P hT⟩
  · exact .inl ⟨30, by decide, pt1put_no x y i hx hy o, pt1wide_no x y i hx hy o⟩
theorem ptput2_or (p q r s : Nat) (j : Bool) (hp : p < fpB) (hq : q < fpB) (hr : r < fpB) (hs : s < fpB) : (∃ e : Int, e ≠ 0 ∧ (CI 27 #[sv [.n 6 p, .n 6 q, .n 6 r, .n 6 s, .b j]] (.tuple #[str [], .int .i64 e])) ∧ (CI 28 #[sv [.n 6 p, .n 6 q, .n 6 r, .n 6 s, .b j]] (.tuple #[str [], .int .i64 e]))) ∨
    ∃ S_ T_ : List UInt8, S_.length = 96 ∧ T_.length = 192 ∧ (CI 27 #[sv [.n 6 p, .n 6 q, .n 6 r, .n 6 s, .b j]] (.tuple #[str S_, .int .i64 0])) ∧ (CI 28 #[sv [.n 6 p, .n 6 q, .n 6 r, .n 6 s, .b j]] (.tuple #[str T_, .int .i64 0])) ∧ (CI 17 #[str S_] (.tuple #[sv [.n 6 p, .n 6 q, .n 6 r, .n 6 s, .b j], .int .i64 0])) ∧ (CI 17 #[str T_] (.tuple #[sv [.n 6 p, .n 6 q, .n 6 r, .n 6 s, .b j], .int .i64 0])) := by
  by_cases o : RawOk2 p q r s j
  · obtain ⟨P, rfl, rfl, rfl, rfl, rfl⟩ := o
    by_cases hT : EP.times C2 rN P = EP.zero
    · exact .inr ⟨put2L P.pt, wide2L P.pt, put2_len _, wide2_len _, pt2put_q P hT, pt2wide_q P hT, back2_s P hT, back2_w P hT⟩
    · exact .inl ⟨31, by decide, pt2put_out P hT, pt2wide_out P hT⟩
  · exact .inl ⟨30, by decide, pt2put_no p q r s j hp hq hr hs o, pt2wide_no p q r s j hp hq hr hs o⟩
theorem ptBack_v (x y : Nat) (i : Bool) (p q r s : Nat) (j : Bool) (hx : x < fpB) (hy : y < fpB) (hp : p < fpB) (hq : q < fpB) (hr : r < fpB) (hs : s < fpB) (w : World) : Calls Tryz.prog 5 #[sv [.n 6 x, .n 6 y, .b i], sv [.n 6 p, .n 6 q, .n 6 r, .n 6 s, .b j]] w (Is (.bool true) w) := by
  rcases ptput1_or x y i hx hy with ⟨e, he, h1, h2⟩ | ⟨S1, T1, l1, l2, h1, h2, h3, h4⟩
  · rcases ptput2_or p q r s j hp hq hr hs with ⟨f, hf, k1, k2⟩ | ⟨S2, T2, m1, m2, k1, k2, k3, k4⟩
    · exact ptBack_ee x y i hx hy p q r s j hp hq hr hs e he h1 h2 f hf k1 k2 w
    · exact ptBack_ek x y i hx hy p q r s j hp hq hr hs e he h1 h2 S2 T2 m1 m2 k1 k2 k3 k4 w
  · rcases ptput2_or p q r s j hp hq hr hs with ⟨f, hf, k1, k2⟩ | ⟨S2, T2, m1, m2, k1, k2, k3, k4⟩
    · exact ptBack_ke x y i hx hy p q r s j hp hq hr hs S1 T1 l1 l2 h1 h2 h3 h4 f hf k1 k2 w
    · exact ptBack_kk x y i hx hy p q r s j hp hq hr hs S1 T1 l1 l2 h1 h2 h3 h4 S2 T2 m1 m2 k1 k2 k3 k4 w
end
end
end Go.Proofs.YtplbcdafelejbaaGreatDoor

/- What is proved here: the law DuoRoots; roots of elements: whether there is one, what is told of it, and which one is high; package point, the second curve: the steps of what is read, one behind the other; package point, the first curve: the steps of what is read, one behind the other; package point, the first curve: what is got of any bytes, case by case; package point, the second curve: what is got of any bytes, case by case. -/
import Derived.Test.YtplbcdafelejbaaGreatDoorComp
import Derived.Test.YtplbcdafelejbaaGreatDoorDuoRoot
import Derived.Test.YtplbcdafelejbaaGreatDoorPt11
import Derived.Test.YtplbcdafelejbaaGreatDoorPt22
import Derived.Test.YtplbcdafelejbaaGreatDoorPt12
namespace Go.Proofs.YtplbcdafelejbaaGreatDoor
section
section
open Go.RowKit
set_option maxRecDepth 20000
set_option maxHeartbeats 4000000
theorem r5Square_none (a b : Nat) (w : World) (ha : a < pN) (hb : b < pN) (h : pRootE (pAdd (pMul a a) (pMul b b)) = 21) :
    Calls Tryz.prog 19 #[nv 6 [a, b]] w (Is (.bool false) w) := by
  go_enter Tryz.func19, Tryz.ntmps19
  refine seq_lit ?_
  refine sn1 (xs := rows 6 [a, b]) (ex_boxn (K := 6) (l := [a, b]) rfl) ?_
  intro w1 N1 hb1
  have HB2 := below_then (brf w) hb1
  refine sv1 (.bool false) (ex_assign _) ?_
  refine seq_nil ?_
  refine wp_seq (wp_region_one (F := fun γ => ⟨#[nv 6 [a, b], pt w.heap.size, .bool false, pt γ, pt w.heap.size, nv 6 [a], pt w.heap.size, nv 6 [a], nv 6 [(pMul a a)], pq w.heap.size 6, nv 6 [b], pq w.heap.size 6, nv 6 [b], nv 6 [(pMul b b)], nv 6 [(pAdd (pMul a a) (pMul b b))], ud, ud], []⟩) 24 6 11 12 [0] [(pAdd (pMul a a) (pMul b b))] [(3, pt 0), (4, pt w.heap.size), (5, nv 6 [a]), (6, pt w.heap.size), (7, nv 6 [a]), (8, nv 6 [(pMul a a)]), (9, pq w.heap.size 6), (10, nv 6 [b]), (11, pq w.heap.size 6), (12, nv 6 [b]), (13, nv 6 [(pMul b b)]), (14, nv 6 [(pAdd (pMul a a) (pMul b b))])] (by kernel_rfl) (by kernel_rfl) (by kernel_rfl) (by kernel_rfl) rfl (by simp only [putAll, List.setIfInBounds_toArray, List.set_cons_zero, List.set_cons_succ]) rfl rfl ?_ ?_)
  · refine GSteps.cons (g1_val (v := pt w.heap.size) rfl (fun γ => rfl) (fun γ => rfl) (fun γ W' h => ex_field faFp2_0 rfl) rfl rfl) ?_
    refine GSteps.cons (g1_val (v := nv 6 [a]) rfl (fun γ => rfl) (fun γ => rfl) (fun γ W' h => ex_loadn (K := 6) (k := 0) (j := 1) (l := [a, b]) flFp rfl (N1.keep h.out) rfl _ rfl) rfl rfl) ?_
    refine GSteps.cons (g1_val (v := pt w.heap.size) rfl (fun γ => rfl) (fun γ => rfl) (fun γ W' h => ex_field faFp2_0 rfl) rfl rfl) ?_
    refine GSteps.cons (g1_val (v := nv 6 [a]) rfl (fun γ => rfl) (fun γ => rfl) (fun γ W' h => ex_loadn (K := 6) (k := 0) (j := 1) (l := [a, b]) flFp rfl (N1.keep h.out) rfl _ rfl) rfl rfl) ?_
    refine GSteps.cons (g1_call (v := nv 6 [(pMul a a)]) rfl (fun γ => rfl) (fun γ => rfl) (fun γ W' => ex_call (vs := [nv 6 [a], nv 6 [a]]) rfl Tryz.call36 rfl) (fun W' h => r4Mul_p a a _ ha ha) rfl rfl) ?_
    refine GSteps.cons (g1_val (v := pq w.heap.size 6) rfl (fun γ => rfl) (fun γ => rfl) (fun γ W' h => ex_field faFp2_1 rfl) rfl rfl) ?_
    refine GSteps.cons (g1_val (v := nv 6 [b]) rfl (fun γ => rfl) (fun γ => rfl) (fun γ W' h => ex_loadn (K := 6) (k := 1) (j := 1) (l := [a, b]) flFp rfl (N1.keep h.out) rfl _ rfl) rfl rfl) ?_
    refine GSteps.cons (g1_val (v := pq w.heap.size 6) rfl (fun γ => rfl) (fun γ => rfl) (fun γ W' h => ex_field faFp2_1 rfl) rfl rfl) ?_
    refine GSteps.cons (g1_val (v := nv 6 [b]) rfl (fun γ => rfl) (fun γ => rfl) (fun γ W' h => ex_loadn (K := 6) (k := 1) (j := 1) (l := [a, b]) flFp rfl (N1.keep h.out) rfl _ rfl) rfl rfl) ?_
    refine GSteps.cons (g1_call (v := nv 6 [(pMul b b)]) rfl (fun γ => rfl) (fun γ => rfl) (fun γ W' => ex_call (vs := [nv 6 [b], nv 6 [b]]) rfl Tryz.call36 rfl) (fun W' h => r4Mul_p b b _ hb hb) rfl rfl) ?_
    refine GSteps.cons (g1_call (v := nv 6 [(pAdd (pMul a a) (pMul b b))]) rfl (fun γ => rfl) (fun γ => rfl) (fun γ W' => ex_call (vs := [nv 6 [(pMul a a)], nv 6 [(pMul b b)]]) rfl Tryz.call35 rfl) (fun W' h => r4Add_p (pMul a a) (pMul b b) _ (pMul_P _ _) (pMul_P _ _)) rfl rfl) ?_
    refine GSteps.cons (g1_new (fun γ => rfl) (fun γ n => rfl) (fun γ W' => ex_alloc zFp) rfl rfl (by kernel_rfl)) ?_
    refine GSteps.cons (g1_store rfl (fun γ => rfl) rfl (fun γ W' hA => ex_storen (K := 6) (l := [0]) (m := [(pAdd (pMul a a) (pMul b b))]) flFp rfl rfl hA rfl) rfl rfl (by kernel_rfl)) ?_
    exact GSteps.nil
  intro g3 w3 hb3 le3 N3
  refine then_n ?_
  have HB5 := below_then HB2 hb3.out
  refine seq_lit ?_
  refine sv1 (nv 6 [(pAdd (pMul a a) (pMul b b))]) (ex_loadn (K := 6) (k := 0) (j := 1) (l := [(pAdd (pMul a a) (pMul b b))]) flFp rfl N3 rfl _ rfl) ?_
  refine sck HB5 Tryz.call11 (r4Square_none (pAdd (pMul a a) (pMul b b)) _ (pAdd_P _ _) h) ?_
  intro w6 hb6 HB9
  refine sv1 (.bool false) (ex_assign _) ?_
  refine seq_nil ?_
  exact wp_ret (bodyPost_ret (ret_tmp Tryz.results19 rfl) rfl ⟨rfl, HB9⟩)
end

section
open Go.RowKit Cv
set_option maxRecDepth 20000
set_option maxHeartbeats 4000000
theorem sq_two2 {F : Type} [Cv.Rg F] (K : Cv.Fd F) {x y : F} (h : x * x = y * y) : x = y ∨ x = -y := by
  have e : (x - y) * (x + y) = 0 := by grind
  by_cases h1 : x - y = 0
  · exact .inl (by grind)
  · have := K.nz e h1
    exact .inr (by grind)
theorem square_why2 {a b s t : Nat} (hs : s = pSub (pMul a a) (pMul b b)) (ht : t = pAdd (pMul a b) (pMul b a)) : pRootE (pAdd (pMul (pCl s) (pCl s)) (pMul (pCl t) (pCl t))) = 0 := by
  have sa := rep_self a
  have sb := rep_self b
  have rs := rep_cl (rep_eq hs (rep_sub (rep_mul sa sa) (rep_mul sb sb)))
  have rt := rep_cl (rep_eq ht (rep_add (rep_mul sa sb) (rep_mul sb sa)))
  have e : pAdd (pMul (pCl s) (pCl s)) (pMul (pCl t) (pCl t)) = pMul (pAdd (pMul a a) (pMul b b)) (pAdd (pMul a a) (pMul b b)) :=
    rep_uniq (pAdd_P _ _) (pMul_P _ _) (rep_add (rep_mul rs rs) (rep_mul rt rt)) (rep_mul (rep_add (rep_mul sa sa) (rep_mul sb sb)) (rep_add (rep_mul sa sa) (rep_mul sb sb))) (by grind)
  rw [e]
  exact square_root _
theorem root_norm2 {a b g0 g1 : Nat} {g : Int} (h : RootOf a b g0 g1 g) : g = pRootE (pAdd (pMul a a) (pMul b b)) := by
  have e : pAdd (pMul (pCl a) (pCl a)) (pMul (pCl b) (pCl b)) = pAdd (pMul a a) (pMul b b) := by rw [pMul_pCl, pMul_pCl]
  have hw := h.why
  rw [e] at hw
  rcases h.ok with h0 | ⟨h0, _, _⟩
  · rcases hw.1 h0 with h1 | h1
    · have e2 : pAdd (pMul a a) (pMul b b) = pMul a a := by
        have rb : Rep 0 (b : Int) := rep_eq h1.symm (rep_cl (rep_self b))
        have e3 : pAdd (pMul a a) (pMul 0 0) = pAdd (pMul a a) (pMul b b) := rep_uniq (pAdd_P _ _) (pAdd_P _ _) (rep_add (rep_mul (rep_self a) (rep_self a)) (rep_mul rb rb)) (rep_add (rep_mul (rep_self a) (rep_self a)) (rep_mul (rep_self b) (rep_self b))) rfl
        rw [← e3]
        exact rep_uniq (pAdd_P _ _) (pMul_P _ _) (rep_add (rep_mul (rep_self a) (rep_self a)) (rep_mul rep_0 rep_0)) (rep_mul (rep_self a) (rep_self a)) (by grind)
      rw [e2, square_root, h0]
    · rw [h1, h0]
  · rcases rootE_or (pAdd (pMul a a) (pMul b b)) with h1 | h1
    · rw [hw.2 (.inr h1)] at h0; cases h0
    · rw [h1, h0]
theorem r4Square_zero (w : World) :
    Calls Tryz.prog 11 #[nv 6 [0]] w (Is (.bool true) w) := by
  go_enter Tryz.func11, Tryz.ntmps11
  refine rh1 (brf w) 24 0 [.n 6 0] [1, 2] (fun γ => [pz (γ 0), .bool false]) ?_ ?_
  · refine stpb 0 (fun γ w h => ex_boxsn (K := 6) (l := [0]) rfl) ?_
    exact stpa .nil
  intro γ1 w1 hb1 A2 _ HB3
  refine rh0 HB3 [3, 4, 5, 6, 7, 8, 9, 10, 11, 12, 13, 2] [nv 6 [0], nv 6 [0], .bool true, .bool true, undef, undef, undef, undef, undef, undef, .bool true, .bool true] ?_ ?_
  · refine stpl 0 1 flFp A2 ?_
    refine stpx (fun _ _ => ex_zero) ?_
    refine stpx (fun _ _ => ex_eqt (K := 6) (l := [0]) eqFp rfl rfl rfl rfl) ?_
    refine stpm ?_
    refine stps ?_
    refine stps ?_
    refine stps ?_
    refine stps ?_
    refine stps ?_
    refine stps ?_
    refine stpx (fun _ _ => ex_pick (r := true) rfl) ?_
    exact stpa .nil
  intro w4 hb4 HB6
  exact wp_ret (bodyPost_ret (ret1 Tryz.results11 (res_tmp rfl)) rfl ⟨rfl, HB6⟩)
theorem r4Square_one (a : Nat) (ha : a < pN) (hz : a ≠ 0) (hc : 1 = a ^ fpH % pN) (w : World) :
    Calls Tryz.prog 11 #[nv 6 [a]] w (Is (.bool true) w) := by
  go_enter Tryz.func11, Tryz.ntmps11
  refine rh1 (brf w) 24 0 [.n 6 a] [1, 2] (fun γ => [pz (γ 0), .bool false]) ?_ ?_
  · refine stpb 0 (fun γ w h => ex_boxsn (K := 6) (l := [a]) rfl) ?_
    exact stpa .nil
  intro γ1 w1 hb1 A2 _ HB3
  refine rh0 HB3 [3, 4, 5, 6, 7, 8, 9, 10, 11, 12, 13, 2] [nv 6 [a], nv 6 [0], .bool false, .bool false, nv 6 [a], nv 6 [pN], nv 6 [fpH], nv 6 [1], nv 6 [1], .bool true, .bool true, .bool true] ?_ ?_
  · refine stpl 0 1 flFp A2 ?_
    refine stpx (fun _ _ => ex_zero) ?_
    refine stpx (fun _ _ => ex_eqn (K := 6) (l := [a]) (m := [0]) eqFp rfl rfl rfl rfl rfl (fpB_all1 (Nat.lt_trans ha fpM_lt)) (fpB_all1 zero_B) rfl false (decide_eq_false (fun hq => hz (by injection hq))).symm) ?_
    refine stpm ?_
    refine stpl 0 1 flFp A2 ?_
    refine stpk Tryz.call39 (fun w h => r4P_n _) ?_
    refine stpk Tryz.call38 (fun w h => r4half_P _) ?_
    refine stpk Tryz.call37 (fun w h => r4Pow_n a fpH _ ha fpH_B 1 hc) ?_
    refine stpx (fun _ _ => ex_one rfl) ?_
    refine stpx (fun _ _ => ex_eqt (K := 6) (l := [1]) eqFp rfl rfl rfl rfl) ?_
    refine stpx (fun _ _ => ex_pick (r := false) rfl) ?_
    exact stpa .nil
  intro w4 hb4 HB6
  exact wp_ret (bodyPost_ret (ret1 Tryz.results11 (res_tmp rfl)) rfl ⟨rfl, HB6⟩)
theorem r4Square_ok (a : Nat) (ha : a < pN) (h : pRootE a = 0) (w : World) : Calls Tryz.prog 11 #[nv 6 [a]] w (Is (.bool true) w) := by
  rcases (rootE_iff a).1 h with h0 | h1
  · obtain rfl : a = 0 := by rwa [pCl_of ha] at h0
    exact r4Square_zero w
  · by_cases hz : a = 0
    · subst hz
      exact r4Square_zero w
    · refine r4Square_one a ha hz ?_ w
      rw [← h1]
      unfold pChi
      rw [pCl_of ha]
      rfl
theorem zneg_p (x : Zp) : (-x).val = pNeg x.val := val_of (by rw [fz_neg, fz_of]) (pNeg_P _)
theorem zmul_p (x y : Zp) : (x * y).val = pMul x.val y.val := val_of (by rw [fz_mul, fz_of, fz_of]) (pMul_P _ _)
theorem root1 (n : Zp) : (∃ v : Zp, v * v = n ∧ pHigh v.val = false ∧ (CI 12 #[nv 6 [n.val]] (.tuple #[nv 6 [v.val], .int .i64 0])) ∧ CI 11 #[nv 6 [n.val]] (.bool true)) ∨
    ((∀ v : Zp, v * v ≠ n) ∧ (CI 12 #[nv 6 [n.val]] (.tuple #[nv 6 [0], .int .i64 21])) ∧ CI 11 #[nv 6 [n.val]] (.bool false)) := by
  rcases rootE_or n.val with h | h
  · obtain ⟨h1, h2⟩ := rootV_square h
    have hv : (fz (pRootV n.val)).val = pRootV n.val := by rw [fz_val, Nat.mod_eq_of_lt (rootV_P _)]
    refine .inl ⟨fz (pRootV n.val), ?_, by rw [hv]; exact h2, fun w => ?_, fun w => r4Square_ok _ n.isLt h w⟩
    · rw [← fz_mul, h1, pCl_of n.isLt, fz_of]
    · rw [hv]
      exact fpRoot_v _ w (zp_B n) _ rfl 0 h.symm
  · refine .inr ⟨fun v hv => ?_, fun w => ?_, fun w => r4Square_none _ w n.isLt h⟩
    · rw [← hv, zmul_p, square_root] at h
      cases h
    · refine fpRoot_v _ w (zp_B n) 0 ?_ 21 h.symm
      unfold pRootE at h
      unfold pRootV
      split
      · next hm => rw [if_pos hm] at h; cases h
      · rfl
theorem high1_neg (y : Zp) (h : y ≠ 0) : pHigh (-y).val = !pHigh y.val := by
  rw [zneg_p]
  refine high_neg ?_
  rw [pCl_of y.isLt]
  exact fun e => h (Fin.ext e)
theorem pick1 {y v : Zp} (h : v * v = y * y) (hy : y ≠ 0) (hv : pHigh v.val = false) : y = if pHigh y.val then -v else v := by
  rcases sq_two2 FdP h with rfl | rfl
  · rw [hv]; rfl
  · rw [high1_neg y hy] at hv
    cases hh : pHigh y.val with
    | false => rw [hh] at hv; cases hv
    | true =>
      show y = - -y
      clear hh hv h hy
      grind
theorem r5Square_okn (a b : Nat) (ha : a < pN) (hb : b < pN) (m n : Nat) (hm : m = pMul a a) (hn : n = pMul b b) (s : Nat) (hs : s = pAdd m n) (hE : pRootE s = 0) (w : World) :
    Calls Tryz.prog 19 #[nv 6 [a, b]] w (Is (.bool true) w) := by
  go_enter Tryz.func19, Tryz.ntmps19
  refine rh1 (brf w) 43 0 [.n 6 a, .n 6 b] [1, 2] (fun γ => [pz (γ 0), .bool false]) ?_ ?_
  · refine stpb 0 (fun γ w h => ex_boxsn (K := 6) (l := [a, b]) rfl) ?_
    exact stpa .nil
  intro γ1 w1 hb1 A2 _ HB3
  refine rhc HB3 [(24, 11, 12, [.n 6 0], [.n 6 s])] [4, 5, 6, 7, 8, 9, 10, 11, 12, 13, 14, 3] (fun γ => [pz (γ1 0), nv 6 [a], pz (γ1 0), nv 6 [a], nv 6 [m], pq (γ1 0) 6, nv 6 [b], pq (γ1 0) 6, nv 6 [b], nv 6 [n], nv 6 [s], pz (γ 0)]) ?_ ?_
  · refine stpx (fun _ _ => ex_field faFp2_0 rfl) ?_
    refine stpl 0 1 flFp A2 ?_
    refine stpx (fun _ _ => ex_field faFp2_0 rfl) ?_
    refine stpl 0 1 flFp A2 ?_
    refine stpk Tryz.call36 (fun w h => hm ▸ r4Mul_p a a _ ha ha) ?_
    refine stpx (fun _ _ => ex_field faFp2_1 rfl) ?_
    refine stpl 1 1 flFp A2 ?_
    refine stpx (fun _ _ => ex_field faFp2_1 rfl) ?_
    refine stpl 1 1 flFp A2 ?_
    refine stpk Tryz.call36 (fun w h => hn ▸ r4Mul_p b b _ hb hb) ?_
    refine stpk Tryz.call35 (fun w h => hs ▸ r4Add_p m n _ (hm ▸ pMul_P _ _) (hn ▸ pMul_P _ _)) ?_
    refine stpn 0 (fun γ w => ex_allocsn (K := 6) (l := [0]) zFp) ?_
    exact stpo 0 0 1 flFp.2 (nv_cells 6 [s]) .nil
  intro γ4 w4 hb4 hB4 _ HB7
  have A6 : SB 24 w4 (γ4 0) [.n 6 s] := (hB4 0 rfl).2
  refine rh0 HB7 [15, 16, 2] [nv 6 [s], .bool true, .bool true] ?_ ?_
  · refine stpl 0 1 flFp A6 ?_
    refine stpk Tryz.call11 (fun w h => r4Square_ok s (hs ▸ pAdd_P _ _) hE _) ?_
    exact stpa .nil
  intro w8 hb8 HB11
  exact wp_ret (bodyPost_ret (ret1 Tryz.results19 (res_tmp rfl)) rfl ⟨rfl, HB11⟩)
theorem zsub_p (x y : Zp) : (x - y).val = pSub x.val y.val := val_of (by rw [fz_sub, fz_of, fz_of]) (pSub_P _ _)
theorem zadd_p (x y : Zp) : (x + y).val = pAdd x.val y.val := val_of (by rw [fz_add, fz_of, fz_of]) (pAdd_P _ _)
theorem qre (x y : Zq) : (x * y).re = x.re * y.re - x.im * y.im := rfl
theorem qim (x y : Zq) : (x * y).im = x.re * y.im + x.im * y.re := rfl
theorem qneg_re (x : Zq) : (-x).re = -x.re := rfl
theorem qneg_im (x : Zq) : (-x).im = -x.im := rfl
theorem root2 (n : Zq) : (∃ v : Zq, v * v = n ∧ dHigh v.re.val v.im.val = false ∧ (CI 20 #[nv 6 [n.re.val, n.im.val]] (.tuple #[nv 6 [v.re.val, v.im.val], .int .i64 0])) ∧ CI 19 #[nv 6 [n.re.val, n.im.val]] (.bool true)) ∨
    ((∀ v : Zq, v * v ≠ n) ∧ (CI 20 #[nv 6 [n.re.val, n.im.val]] (.tuple #[nv 6 [0, 0], .int .i64 21])) ∧ CI 19 #[nv 6 [n.re.val, n.im.val]] (.bool false)) := by
  obtain ⟨v0, v1, e, hR, hC⟩ := duoRoot_v n.re.val n.im.val (zp_B _) (zp_B _)
  have hn := root_norm2 hR
  rcases hR.ok with h | ⟨h, h0, h1⟩
  · obtain ⟨h1, h2⟩ := hR.sq h
    have e0 : (fz v0).val = v0 := by rw [fz_val, Nat.mod_eq_of_lt hR.b0]
    have e1 : (fz v1).val = v1 := by rw [fz_val, Nat.mod_eq_of_lt hR.b1]
    refine .inl ⟨⟨fz v0, fz v1⟩, ?_, ?_, fun w => ?_, fun w => ?_⟩
    · obtain ⟨s1, s2⟩ := h1
      refine Zq.ext' ?_ ?_
      · rw [qre]
        show fz v0 * fz v0 - fz v1 * fz v1 = n.re
        rw [← fz_mul, ← fz_mul, ← fz_sub, s1, pCl_of n.re.isLt, fz_of]
      · rw [qim]
        show fz v0 * fz v1 + fz v1 * fz v0 = n.im
        rw [← fz_mul, ← fz_mul, ← fz_add, s2, pCl_of n.im.isLt, fz_of]
    · show dHigh (fz v0).val (fz v1).val = false
      rw [e0, e1]
      exact h2
    · show Calls _ _ _ _ (Is (.tuple #[nv 6 [(fz v0).val, (fz v1).val], .int .i64 0]) w)
      rw [e0, e1, ← h]
      exact hC w
    · rw [h] at hn
      exact r5Square_okn _ _ n.re.isLt n.im.isLt _ _ rfl rfl _ rfl hn.symm w
  · rw [h] at hn
    refine .inr ⟨fun v hv => ?_, fun w => ?_, fun w => r5Square_none _ _ w n.re.isLt n.im.isLt hn.symm⟩
    · have h2 := square_why2 (a := v.re.val) (b := v.im.val) rfl rfl
      have e0 : n.re.val = pSub (pMul v.re.val v.re.val) (pMul v.im.val v.im.val) := by rw [← hv, qre, zsub_p, zmul_p, zmul_p]
      have e1 : n.im.val = pAdd (pMul v.re.val v.im.val) (pMul v.im.val v.re.val) := by rw [← hv, qim, zadd_p, zmul_p, zmul_p]
      rw [← e0, ← e1, pMul_pCl, pMul_pCl, ← hn] at h2
      cases h2
    · have := hC w
      rw [h, h0, h1] at this
      exact this
theorem high2_neg (y : Zq) (h : y ≠ 0) : dHigh (-y).re.val (-y).im.val = !dHigh y.re.val y.im.val := by
  rw [qneg_re, qneg_im, zneg_p, zneg_p]
  refine dHigh_neg ?_
  rw [pCl_of y.re.isLt, pCl_of y.im.isLt]
  exact fun e => h (Zq.ext' (Fin.ext e.1) (Fin.ext e.2))
theorem pick2 {y v : Zq} (h : v * v = y * y) (hy : y ≠ 0) (hv : dHigh v.re.val v.im.val = false) : y = if dHigh y.re.val y.im.val then -v else v := by
  rcases sq_two2 FdQ h with rfl | rfl
  · rw [hv]; rfl
  · rw [high2_neg y hy] at hv
    cases hh : dHigh y.re.val y.im.val with
    | false => rw [hh] at hv; cases hv
    | true =>
      show y = - -y
      clear hh hv h hy
      grind
end
end

section
section
open Go.RowKit Cv
set_option maxRecDepth 20000
set_option maxHeartbeats 4000000
theorem pt2get1_v (gc gs : Nat) (l : List UInt8) (e : Int) (hL : CI 104 #[sv cvS2, str l] (.int .i64 e)) (w : World) (Ac : SB 79 w gc cvS2) (As : SB 9 w gs [.v (str l)]) :
    Calls Tryz.prog 103 #[pz gc, pz gs] w (Is (.int .i64 e) w) := by
  go_enter Tryz.func103, Tryz.ntmps103
  refine rh0 (brf w) [2] [.int .i64 0] ?_ ?_
  · exact stpa .nil
  intro w1 hb1 HB4
  have A2 := Ac.keep hb1.out
  have A3 := As.keep hb1.out
  refine seq_lit ?_
  refine sv1 (sv cvS2) (ex_loads 0 11 (m := cvS2) flCv2 rfl rfl A2 rfl rfl) ?_
  refine sv1 (str l) (ex_load1 0 (s := .v (str l)) (v := str l) sgT1 rfl A3 rfl rfl rfl) ?_
  refine sck HB4 Tryz.call104 (hL _) ?_
  intro w7 hb7 HB10
  refine sv1 (.int .i64 e) (ex_assign _) ?_
  refine seq_nil ?_
  exact wp_ret (bodyPost_ret (ret1 Tryz.results103 (res_tmp rfl)) rfl ⟨rfl, HB10⟩)
theorem pt2get2_s (gs gc : Nat) (l : List UInt8) (hl : l.length = 96) (e : Int) (hF : CI 77 #[str l, .bool true] (.int .i64 e)) (w : World) (As : SB 9 w gs [.v (str l)]) (Ac : SB 79 w gc cvS2) :
    Calls Tryz.prog 105 #[pz gs, pz gc] w (Is (.int .i64 e) w) := by
  go_enter Tryz.func105, Tryz.ntmps105
  refine rh0 (brf w) [2] [.int .i64 0] ?_ ?_
  · exact stpa .nil
  intro w1 hb1 HB4
  have A2 := As.keep hb1.out
  have A3 := Ac.keep hb1.out
  refine seq_lit ?_
  refine sv1 (str l) (ex_load1 0 (s := .v (str l)) (v := str l) sgT1 rfl A2 rfl rfl rfl) ?_
  refine sv1 (str l) (ex_load1 0 (s := .v (str l)) (v := str l) sgT1 rfl A2 rfl rfl rfl) ?_
  refine sv1 (.int .i64 96) (ex_lenL (l := l) (n := 96) rfl hl rfl) ?_
  refine sv1 (pz gc) (ex_field faCv2_0 rfl) ?_
  refine sv1 (.int .i64 96) (ex_load1 0 (s := .i .i64 96) (v := .int .i64 96) sgInt rfl A3 rfl rfl rfl) ?_
  refine sv1 (.bool true) (ex_eqi rfl rfl _ rfl) ?_
  refine sck HB4 Tryz.call77 (hF _) ?_
  intro w11 hb11 HB14
  refine sv1 (.int .i64 e) (ex_assign _) ?_
  refine seq_nil ?_
  exact wp_ret (bodyPost_ret (ret1 Tryz.results105 (res_tmp rfl)) rfl ⟨rfl, HB14⟩)
theorem pt2get2_f (gs gc : Nat) (l : List UInt8) (hl : l.length = 192) (e : Int) (hF : CI 77 #[str l, .bool false] (.int .i64 e)) (w : World) (As : SB 9 w gs [.v (str l)]) (Ac : SB 79 w gc cvS2) :
    Calls Tryz.prog 105 #[pz gs, pz gc] w (Is (.int .i64 e) w) := by
  go_enter Tryz.func105, Tryz.ntmps105
  refine rh0 (brf w) [2] [.int .i64 0] ?_ ?_
  · exact stpa .nil
  intro w1 hb1 HB4
  have A2 := As.keep hb1.out
  have A3 := Ac.keep hb1.out
  refine seq_lit ?_
  refine sv1 (str l) (ex_load1 0 (s := .v (str l)) (v := str l) sgT1 rfl A2 rfl rfl rfl) ?_
  refine sv1 (str l) (ex_load1 0 (s := .v (str l)) (v := str l) sgT1 rfl A2 rfl rfl rfl) ?_
  refine sv1 (.int .i64 192) (ex_lenL (l := l) (n := 192) rfl hl rfl) ?_
  refine sv1 (pz gc) (ex_field faCv2_0 rfl) ?_
  refine sv1 (.int .i64 96) (ex_load1 0 (s := .i .i64 96) (v := .int .i64 96) sgInt rfl A3 rfl rfl rfl) ?_
  refine sv1 (.bool false) (ex_eqi rfl rfl _ rfl) ?_
  refine sck HB4 Tryz.call77 (hF _) ?_
  intro w11 hb11 HB14
  refine sv1 (.int .i64 e) (ex_assign _) ?_
  refine seq_nil ?_
  exact wp_ret (bodyPost_ret (ret1 Tryz.results105 (res_tmp rfl)) rfl ⟨rfl, HB14⟩)
theorem pt2get3_v (gc gs ga : Nat) (n1 : gc ≠ ga) (n2 : gs ≠ ga) (l : List UInt8) (x0 : Nat) (x1 : Nat) (y0 : Nat) (y1 : Nat) (i : Bool) (e : Int) (hP : CI 107 #[sv cvS2, str l] (.tuple #[sv [.n 6 x0, .n 6 x1, .n 6 y0, .n 6 y1, .b i], .int .i64 e])) (w : World) (Ac : SB 79 w gc cvS2) (As : SB 9 w gs [.v (str l)]) (Aa : SB 45 w ga [.n 6 0, .n 6 0, .n 6 0, .n 6 0, .b false]) :
    Calls Tryz.prog 106 #[pz gc, pz gs, pz ga] w (fun en_ w' => en_ = .returned (.int .i64 e) ∧ (Chg ga ga w w' ∧ SB 45 w' ga [.n 6 x0, .n 6 x1, .n 6 y0, .n 6 y1, .b i])) := by
  go_enter Tryz.func106, Tryz.ntmps106
  refine rq0 [3] [.int .i64 0] ?_ ?_
  · exact stpa .nil
  intro w1 hb1
  have A2 := Ac.keep hb1.out
  have A3 := As.keep hb1.out
  have A4 := Aa.keep hb1.out
  have HB6 := (Chg.refl ga ga w).then hb1.out
  refine seq_lit ?_
  refine sv1 (sv cvS2) (ex_loads 0 11 (m := cvS2) flCv2 rfl rfl A2 rfl rfl) ?_
  refine sv1 (str l) (ex_load1 0 (s := .v (str l)) (v := str l) sgT1 rfl A3 rfl rfl rfl) ?_
  refine sc1 (.tuple #[sv [.n 6 x0, .n 6 x1, .n 6 y0, .n 6 y1, .b i], .int .i64 e]) (ex_call (vs := [sv cvS2, str l]) rfl Tryz.call107 rfl) (hP _) ?_
  intro w9 hb9
  have A12 := A4.keep hb9
  have HB14 := HB6.then hb9
  refine sv1 (.tuple #[sv [.n 6 x0, .n 6 x1, .n 6 y0, .n 6 y1, .b i], .int .i64 e]) (ex_move _) ?_
  refine sv1 (sv [.n 6 x0, .n 6 x1, .n 6 y0, .n 6 y1, .b i]) (ex_extract rfl rfl) ?_
  refine sv1 (.int .i64 e) (ex_extract rfl rfl) ?_
  refine ss1 (ex_stores 0 5 (l := [.n 6 0, .n 6 0, .n 6 0, .n 6 0, .b false]) (m := [.n 6 x0, .n 6 x1, .n 6 y0, .n 6 y1, .b i]) flG2.2 rfl rfl rfl rfl A12 rfl rfl) ?_
  intro w18 hs18
  have A21 := hs18.here 0 5 (l' := [.n 6 x0, .n 6 x1, .n 6 y0, .n 6 y1, .b i]) A12 rfl rfl rfl
  have HB22 := HB14.old hs18 (.inl rfl)
  refine sv1 (.int .i64 e) (ex_assign _) ?_
  refine seq_nil ?_
  refine seq_lit ?_
  refine sv1 (.int .i64 e) (ex_move _) ?_
  refine sv1 (.int .i64 e) (ex_assign _) ?_
  refine seq_nil ?_
  exact wp_ret (bodyPost_ret (ret1 Tryz.results106 (res_tmp rfl)) rfl ⟨rfl, HB22, A21⟩)
theorem pt2get4_v (gc ga : Nat) (x0 : Nat) (x1 : Nat) (y0 : Nat) (y1 : Nat) (i : Bool) (e : Int) (hC : CI 109 #[sv cvS2, sv [.n 6 x0, .n 6 x1, .n 6 y0, .n 6 y1, .b i]] (.int .i64 e)) (w : World) (Ac : SB 79 w gc cvS2) (Aa : SB 45 w ga [.n 6 x0, .n 6 x1, .n 6 y0, .n 6 y1, .b i]) :
    Calls Tryz.prog 108 #[pz gc, pz ga] w (Is (.int .i64 e) w) := by
  go_enter Tryz.func108, Tryz.ntmps108
  refine rh0 (brf w) [2] [.int .i64 0] ?_ ?_
  · exact stpa .nil
  intro w1 hb1 HB4
  have A2 := Ac.keep hb1.out
  have A3 := Aa.keep hb1.out
  refine seq_lit ?_
  refine sv1 (sv cvS2) (ex_loads 0 11 (m := cvS2) flCv2 rfl rfl A2 rfl rfl) ?_
  refine sv1 (sv [.n 6 x0, .n 6 x1, .n 6 y0, .n 6 y1, .b i]) (ex_loads 0 5 (m := [.n 6 x0, .n 6 x1, .n 6 y0, .n 6 y1, .b i]) flG2 rfl rfl A3 rfl rfl) ?_
  refine sck HB4 Tryz.call109 (hC _) ?_
  intro w7 hb7 HB10
  refine sv1 (.int .i64 e) (ex_assign _) ?_
  refine seq_nil ?_
  exact wp_ret (bodyPost_ret (ret1 Tryz.results108 (res_tmp rfl)) rfl ⟨rfl, HB10⟩)
theorem pt2get_e (l : List UInt8) (x0 : Nat) (x1 : Nat) (y0 : Nat) (y1 : Nat) (i : Bool) (hL : CI 104 #[sv cvS2, str l] (.int .i64 0)) (h2 : ∀ (gs gc : Nat) (w : World) (_ : SB 9 w gs [.v (str l)]) (_ : SB 79 w gc cvS2), Calls Tryz.prog 105 #[pz gs, pz gc] w (Is (.int .i64 0) w)) (hP : CI 107 #[sv cvS2, str l] (.tuple #[sv [.n 6 x0, .n 6 x1, .n 6 y0, .n 6 y1, .b i], .int .i64 0])) (hC : CI 109 #[sv cvS2, sv [.n 6 x0, .n 6 x1, .n 6 y0, .n 6 y1, .b i]] (.int .i64 0)) (w : World) :
    Calls Tryz.prog 52 #[sv cvS2, str l] w (Is (.tuple #[sv [.n 6 x0, .n 6 x1, .n 6 y0, .n 6 y1, .b i], .int .i64 0]) w) := by
  go_enter Tryz.func52, Tryz.ntmps52
  refine rh3 (brf w) (79) 0 cvS2 9 1 [.v (str l)] 45 2 [.n 6 0, .n 6 0, .n 6 0, .n 6 0, .b false] [2, 3, 4, 5] (fun γ => [pz (γ 0), pz (γ 1), pz (γ 2), .int .i64 0]) ?_ ?_
  · refine stpb 0 (fun γ w h => ex_boxs (l := cvS2) rfl) ?_
    refine stpb 1 (fun γ w h => ex_box1 (s := .v (str l)) rfl rfl) ?_
    refine stpb 2 (fun γ w h => ex_allocs (l := [.n 6 0, .n 6 0, .n 6 0, .n 6 0, .b false]) zG2) ?_
    exact stpa .nil
  intro γ1 w1 hb1 A2 A3 A4 _ _ le4 hn1 HB5
  refine rh2 HB5 45 0 [.n 6 0, .n 6 0, .n 6 0, .n 6 0, .b false] 45 1 [.n 6 0, .n 6 0, .n 6 0, .n 6 0, .b false] [6, 7] (fun γ => [pz (γ 0), pz (γ 1)]) ?_ ?_
  · refine stpb 0 (fun γ w h => ex_allocs (l := [.n 6 0, .n 6 0, .n 6 0, .n 6 0, .b false]) zG2) ?_
    exact stpb 1 (fun γ w h => ex_allocs (l := [.n 6 0, .n 6 0, .n 6 0, .n 6 0, .b false]) zG2) .nil
  intro γ6 w6 hb6 A10 _ le10 _ hn6 HB12
  have A7 := A2.keep hb6.out
  have A8 := A3.keep hb6.out
  have A9 := A4.keep hb6.out
  refine seq_lit ?_
  refine sq_makes (a' := fun g13 => ⟨#[sv cvS2, str l, pz (γ1 0), pz (γ1 1), pz (γ1 2), .int .i64 0, pz (γ6 0), pz (γ6 1), undef, undef, .func (.func 126) #[] #[pz g13], undef, undef, undef, undef, undef, undef, undef, undef, undef, undef, undef, undef, undef, undef, undef, undef, undef], []⟩) (val := fun g13 => .func (.func 126) #[] #[pz g13]) (T := 27) (l := [.i .i64 0]) (fun _ => rfl) rfl (ex_call (vs := []) rfl Tryz.call73 rfl) (ptsteps_v _) ?_
  intro g13 w13 N13 le13 hb13
  have A14 := A7.keep hb13
  have A15 := A8.keep hb13
  have A16 := A9.keep hb13
  have A17 := A10.keep hb13
  have HB19 := below_then HB12 hb13
  refine sv1 (.func (.func 126) #[] #[pz g13]) (ex_assign _) ?_
  refine seq_nil ?_
  refine seq_lit ?_
  refine sv1 (.func (.func 126) #[] #[pz g13]) (ex_move _) ?_
  refine sv1 (.func (.func 103) #[] #[pz (γ1 0), pz (γ1 1)]) (ex_closure (cs := [pz (γ1 0), pz (γ1 1)]) rfl) ?_
  refine sk1 (.int .i64 0) (ex_callc (vs := [.func (.func 103) #[] #[pz (γ1 0), pz (γ1 1)]]) (cs := [pz g13]) rfl Tryz.call126 rfl) (pttake_is g13 103 [pz (γ1 0), pz (γ1 1)] Tryz.call103 0 _ (fun w_ hb_ => pt2get1_v ((γ1 0)) ((γ1 1)) l 0 hL w_ (A14.keep hb_) (A15.keep hb_)) N13) ?_
  rintro w23 ⟨hc23, N23_0⟩
  have A24 := hc23.kept _ _ _ (Nat.ne_of_lt (Nat.lt_of_lt_of_le A7.lt le13)) (Nat.ne_of_lt (Nat.lt_of_lt_of_le A7.lt le13)) A14
  have A25 := hc23.kept _ _ _ (Nat.ne_of_lt (Nat.lt_of_lt_of_le A8.lt le13)) (Nat.ne_of_lt (Nat.lt_of_lt_of_le A8.lt le13)) A15
  have A26 := hc23.kept _ _ _ (Nat.ne_of_lt (Nat.lt_of_lt_of_le A9.lt le13)) (Nat.ne_of_lt (Nat.lt_of_lt_of_le A9.lt le13)) A16
  have A27 := hc23.kept _ _ _ (Nat.ne_of_lt (Nat.lt_of_lt_of_le A10.lt le13)) (Nat.ne_of_lt (Nat.lt_of_lt_of_le A10.lt le13)) A17
  have HB29 := hc23.below HB19 (Nat.le_trans HB12.size le13) (Nat.le_trans HB12.size le13) rfl
  refine seq_nil ?_
  refine seq_lit ?_
  refine sv1 (.func (.func 126) #[] #[pz g13]) (ex_move _) ?_
  refine sv1 (.func (.func 105) #[] #[pz (γ1 1), pz (γ1 0)]) (ex_closure (cs := [pz (γ1 1), pz (γ1 0)]) rfl) ?_
  refine sk1 (.int .i64 0) (ex_callc (vs := [.func (.func 105) #[] #[pz (γ1 1), pz (γ1 0)]]) (cs := [pz g13]) rfl Tryz.call126 rfl) (pttake_is g13 105 [pz (γ1 1), pz (γ1 0)] Tryz.call105 0 _ (fun w_ hb_ => h2 ((γ1 1)) ((γ1 0)) w_ (A25.keep hb_) (A24.keep hb_)) N23_0) ?_
  rintro w32 ⟨hc32, N32_0⟩
  have A33 := hc32.kept _ _ _ (Nat.ne_of_lt (Nat.lt_of_lt_of_le A7.lt le13)) (Nat.ne_of_lt (Nat.lt_of_lt_of_le A7.lt le13)) A24
  have A34 := hc32.kept _ _ _ (Nat.ne_of_lt (Nat.lt_of_lt_of_le A8.lt le13)) (Nat.ne_of_lt (Nat.lt_of_lt_of_le A8.lt le13)) A25
  have A35 := hc32.kept _ _ _ (Nat.ne_of_lt (Nat.lt_of_lt_of_le A9.lt le13)) (Nat.ne_of_lt (Nat.lt_of_lt_of_le A9.lt le13)) A26
  have A36 := hc32.kept _ _ _ (Nat.ne_of_lt (Nat.lt_of_lt_of_le A10.lt le13)) (Nat.ne_of_lt (Nat.lt_of_lt_of_le A10.lt le13)) A27
  have HB38 := hc32.below HB29 (Nat.le_trans HB12.size le13) (Nat.le_trans HB12.size le13) rfl
  refine seq_nil ?_
  refine seq_lit ?_
  refine sv1 (.func (.func 126) #[] #[pz g13]) (ex_move _) ?_
  refine sv1 (.func (.func 106) #[] #[pz (γ1 0), pz (γ1 1), pz (γ6 0)]) (ex_closure (cs := [pz (γ1 0), pz (γ1 1), pz (γ6 0)]) rfl) ?_
  refine sk1 (.int .i64 0) (ex_callc (vs := [.func (.func 106) #[] #[pz (γ1 0), pz (γ1 1), pz (γ6 0)]]) (cs := [pz g13]) rfl Tryz.call126 rfl) (pttake_chg g13 106 [pz (γ1 0), pz (γ1 1), pz (γ6 0)] Tryz.call106 0 ((γ6 0)) (Ne.symm (Nat.ne_of_lt (Nat.lt_of_lt_of_le A10.lt le13))) 45 [.n 6 x0, .n 6 x1, .n 6 y0, .n 6 y1, .b i] _ [.n 6 0, .n 6 0, .n 6 0, .n 6 0, .b false] A36 (fun w_ hb_ => pt2get3_v ((γ1 0)) ((γ1 1)) ((γ6 0)) (Nat.ne_of_lt (Nat.lt_of_lt_of_le A2.lt le10)) (Nat.ne_of_lt (Nat.lt_of_lt_of_le A3.lt le10)) l x0 x1 y0 y1 i 0 hP w_ (A33.keep hb_) (A34.keep hb_) (A36.keep hb_)) N32_0) ?_
  rintro w41 ⟨hc41, N41_0, N41_1⟩
  have A42 := hc41.kept _ _ _ (Nat.ne_of_lt (Nat.lt_of_lt_of_le A7.lt le13)) (Nat.ne_of_lt (Nat.lt_of_lt_of_le A2.lt le10)) A33
  have A44 := hc41.kept _ _ _ (Nat.ne_of_lt (Nat.lt_of_lt_of_le A9.lt le13)) (Nat.ne_of_lt (Nat.lt_of_lt_of_le A4.lt le10)) A35
  have HB46 := hc41.below HB38 (Nat.le_trans HB12.size le13) (Nat.le_trans HB5.size le10) rfl
  refine seq_nil ?_
  refine wp_seq ?_
  refine seq_lit ?_
  refine sv1 (.func (.func 126) #[] #[pz g13]) (ex_move _) ?_
  refine sv1 (.func (.func 108) #[] #[pz (γ1 0), pz (γ6 0)]) (ex_closure (cs := [pz (γ1 0), pz (γ6 0)]) rfl) ?_
  refine sk1 (.int .i64 0) (ex_callc (vs := [.func (.func 108) #[] #[pz (γ1 0), pz (γ6 0)]]) (cs := [pz g13]) rfl Tryz.call126 rfl) (pttake_is g13 108 [pz (γ1 0), pz (γ6 0)] Tryz.call108 0 _ (fun w_ hb_ => pt2get4_v ((γ1 0)) ((γ6 0)) x0 x1 y0 y1 i 0 hC w_ (A42.keep hb_) (N41_1.keep hb_)) N41_0) ?_
  rintro w49 ⟨hc49, N49_0⟩
  have A52 := hc49.kept _ _ _ (Nat.ne_of_lt (Nat.lt_of_lt_of_le A9.lt le13)) (Nat.ne_of_lt (Nat.lt_of_lt_of_le A9.lt le13)) A44
  have A53 := hc49.kept _ _ _ (Nat.ne_of_lt (Nat.lt_of_lt_of_le A10.lt le13)) (Nat.ne_of_lt (Nat.lt_of_lt_of_le A10.lt le13)) N41_1
  have HB55 := hc49.below HB46 (Nat.le_trans HB12.size le13) (Nat.le_trans HB12.size le13) rfl
  refine sv1 (.int .i64 0) (ex_assign _) ?_
  refine seq_nil ?_
  refine rh0 HB55 [23, 24] [.int .i64 0, .bool false] ?_ ?_
  · refine stpm ?_
    exact stpx (fun _ _ => ex_neqi rfl rfl _ rfl) .nil
  intro w57 hb57 HB64
  have A60 := A52.keep hb57.out
  have A61 := A53.keep hb57.out
  refine wp_cond_false rfl ?_
  refine wp_skip ?_
  refine th_r ?_
  refine rhs HB64 le4 1 0 [.n 6 x0, .n 6 x1, .n 6 y0, .n 6 y1, .b i] [27, 5] [sv [.n 6 x0, .n 6 x1, .n 6 y0, .n 6 y1, .b i], .int .i64 0] ?_ ?_
  · refine latv (fun γ w h => ex_loads 0 5 (m := [.n 6 x0, .n 6 x1, .n 6 y0, .n 6 y1, .b i]) flG2 rfl rfl (A61.keep h.out) rfl rfl) ?_
    refine latq 0 5 flG2.2 A60 ?_
    exact lata (fun γ w h => ex_assign _) .nil
  intro w65 w65_ hb65 hs65 HB79
  have A68 := A60.keep hb65.out
  have A75 := hs65.here 0 5 (l' := [.n 6 x0, .n 6 x1, .n 6 y0, .n 6 y1, .b i]) A68 rfl rfl rfl
  exact wp_ret (bodyPost_ret (ret2 Tryz.results52 (res_sv rfl A75 flG2 rfl) (res_tmp rfl)) rfl ⟨rfl, HB79⟩)
theorem pt2get_q (l : List UInt8) (x0 : Nat) (x1 : Nat) (y0 : Nat) (y1 : Nat) (i : Bool) (e : Int) (hM : CI 52 #[sv cvS2, str l] (.tuple #[sv [.n 6 x0, .n 6 x1, .n 6 y0, .n 6 y1, .b i], .int .i64 e])) (w : World) :
    Calls Tryz.prog 17 #[str l] w (Is (.tuple #[sv [.n 6 x0, .n 6 x1, .n 6 y0, .n 6 y1, .b i], .int .i64 e]) w) := by
  go_enter Tryz.func17, Tryz.ntmps17
  refine rh1 (brf w) 45 0 [.n 6 0, .n 6 0, .n 6 0, .n 6 0, .b false] [2, 3] (fun γ => [pz (γ 0), .int .i64 0]) ?_ ?_
  · refine stpb 0 (fun γ w h => ex_allocs (l := [.n 6 0, .n 6 0, .n 6 0, .n 6 0, .b false]) zG2) ?_
    exact stpa .nil
  intro γ1 w1 hb1 A2 le2 HB3
  refine rhs HB3 le2 5 0 [.n 6 x0, .n 6 x1, .n 6 y0, .n 6 y1, .b i] [4, 5, 6, 7, 8, 3] [sv cvS2, str l, .tuple #[sv [.n 6 x0, .n 6 x1, .n 6 y0, .n 6 y1, .b i], .int .i64 e], sv [.n 6 x0, .n 6 x1, .n 6 y0, .n 6 y1, .b i], .int .i64 e, .int .i64 e] ?_ ?_
  · refine latk Tryz.call51 (fun w h => pt2first_v _) ?_
    refine latm ?_
    refine latk Tryz.call52 (fun w h => hM _) ?_
    refine latv (fun γ w h => ex_extract rfl rfl) ?_
    refine latv (fun γ w h => ex_extract rfl rfl) ?_
    refine latq 0 5 flG2.2 A2 ?_
    exact lata (fun γ w h => ex_assign _) .nil
  intro w4 w4_ hb4 hs4 HB8
  have A5 := A2.keep hb4.out
  have A7 := hs4.here 0 5 (l' := [.n 6 x0, .n 6 x1, .n 6 y0, .n 6 y1, .b i]) A5 rfl rfl rfl
  exact wp_ret (bodyPost_ret (ret2 Tryz.results17 (res_sv rfl A7 flG2 rfl) (res_tmp rfl)) rfl ⟨rfl, HB8⟩)
end

section
section
open Go.RowKit Cv
set_option maxRecDepth 20000
set_option maxHeartbeats 4000000
theorem pt1get1_v (gc gs : Nat) (l : List UInt8) (e : Int) (hL : CI 75 #[sv cvS1, str l] (.int .i64 e)) (w : World) (Ac : SB 63 w gc cvS1) (As : SB 9 w gs [.v (str l)]) :
    Calls Tryz.prog 74 #[pz gc, pz gs] w (Is (.int .i64 e) w) := by
  go_enter Tryz.func74, Tryz.ntmps74
  refine rh0 (brf w) [2] [.int .i64 0] ?_ ?_
  · exact stpa .nil
  intro w1 hb1 HB4
  have A2 := Ac.keep hb1.out
  have A3 := As.keep hb1.out
  refine seq_lit ?_
  refine sv1 (sv cvS1) (ex_loads 0 11 (m := cvS1) flCv1 rfl rfl A2 rfl rfl) ?_
  refine sv1 (str l) (ex_load1 0 (s := .v (str l)) (v := str l) sgT1 rfl A3 rfl rfl rfl) ?_
  refine sck HB4 Tryz.call75 (hL _) ?_
  intro w7 hb7 HB10
  refine sv1 (.int .i64 e) (ex_assign _) ?_
  refine seq_nil ?_
  exact wp_ret (bodyPost_ret (ret1 Tryz.results74 (res_tmp rfl)) rfl ⟨rfl, HB10⟩)
theorem pt1get2_s (gs gc : Nat) (l : List UInt8) (hl : l.length = 48) (e : Int) (hF : CI 77 #[str l, .bool true] (.int .i64 e)) (w : World) (As : SB 9 w gs [.v (str l)]) (Ac : SB 63 w gc cvS1) :
    Calls Tryz.prog 76 #[pz gs, pz gc] w (Is (.int .i64 e) w) := by
  go_enter Tryz.func76, Tryz.ntmps76
  refine rh0 (brf w) [2] [.int .i64 0] ?_ ?_
  · exact stpa .nil
  intro w1 hb1 HB4
  have A2 := As.keep hb1.out
  have A3 := Ac.keep hb1.out
  refine seq_lit ?_
  refine sv1 (str l) (ex_load1 0 (s := .v (str l)) (v := str l) sgT1 rfl A2 rfl rfl rfl) ?_
  refine sv1 (str l) (ex_load1 0 (s := .v (str l)) (v := str l) sgT1 rfl A2 rfl rfl rfl) ?_
  refine sv1 (.int .i64 48) (ex_lenL (l := l) (n := 48) rfl hl rfl) ?_
  refine sv1 (pz gc) (ex_field faCv1_0 rfl) ?_
  refine sv1 (.int .i64 48) (ex_load1 0 (s := .i .i64 48) (v := .int .i64 48) sgInt rfl A3 rfl rfl rfl) ?_
  refine sv1 (.bool true) (ex_eqi rfl rfl _ rfl) ?_
  refine sck HB4 Tryz.call77 (hF _) ?_
  intro w11 hb11 HB14
  refine sv1 (.int .i64 e) (ex_assign _) ?_
  refine seq_nil ?_
  exact wp_ret (bodyPost_ret (ret1 Tryz.results76 (res_tmp rfl)) rfl ⟨rfl, HB14⟩)
theorem pt1get2_f (gs gc : Nat) (l : List UInt8) (hl : l.length = 96) (e : Int) (hF : CI 77 #[str l, .bool false] (.int .i64 e)) (w : World) (As : SB 9 w gs [.v (str l)]) (Ac : SB 63 w gc cvS1) :
    Calls Tryz.prog 76 #[pz gs, pz gc] w (Is (.int .i64 e) w) := by
  go_enter Tryz.func76, Tryz.ntmps76
  refine rh0 (brf w) [2] [.int .i64 0] ?_ ?_
  · exact stpa .nil
  intro w1 hb1 HB4
  have A2 := As.keep hb1.out
  have A3 := Ac.keep hb1.out
  refine seq_lit ?_
  refine sv1 (str l) (ex_load1 0 (s := .v (str l)) (v := str l) sgT1 rfl A2 rfl rfl rfl) ?_
  refine sv1 (str l) (ex_load1 0 (s := .v (str l)) (v := str l) sgT1 rfl A2 rfl rfl rfl) ?_
  refine sv1 (.int .i64 96) (ex_lenL (l := l) (n := 96) rfl hl rfl) ?_
  refine sv1 (pz gc) (ex_field faCv1_0 rfl) ?_
  refine sv1 (.int .i64 48) (ex_load1 0 (s := .i .i64 48) (v := .int .i64 48) sgInt rfl A3 rfl rfl rfl) ?_
  refine sv1 (.bool false) (ex_eqi rfl rfl _ rfl) ?_
  refine sck HB4 Tryz.call77 (hF _) ?_
  intro w11 hb11 HB14
  refine sv1 (.int .i64 e) (ex_assign _) ?_
  refine seq_nil ?_
  exact wp_ret (bodyPost_ret (ret1 Tryz.results76 (res_tmp rfl)) rfl ⟨rfl, HB14⟩)
theorem pt1get3_v (gc gs ga : Nat) (n1 : gc ≠ ga) (n2 : gs ≠ ga) (l : List UInt8) (x : Nat) (y : Nat) (i : Bool) (e : Int) (hP : CI 79 #[sv cvS1, str l] (.tuple #[sv [.n 6 x, .n 6 y, .b i], .int .i64 e])) (w : World) (Ac : SB 63 w gc cvS1) (As : SB 9 w gs [.v (str l)]) (Aa : SB 26 w ga [.n 6 0, .n 6 0, .b false]) :
    Calls Tryz.prog 78 #[pz gc, pz gs, pz ga] w (fun en_ w' => en_ = .returned (.int .i64 e) ∧ (Chg ga ga w w' ∧ SB 26 w' ga [.n 6 x, .n 6 y, .b i])) := by
  go_enter Tryz.func78, Tryz.ntmps78
  refine rq0 [3] [.int .i64 0] ?_ ?_
  · exact stpa .nil
  intro w1 hb1
  have A2 := Ac.keep hb1.out
  have A3 := As.keep hb1.out
  have A4 := Aa.keep hb1.out
  have HB6 := (Chg.refl ga ga w).then hb1.out
  refine seq_lit ?_
  refine sv1 (sv cvS1) (ex_loads 0 11 (m := cvS1) flCv1 rfl rfl A2 rfl rfl) ?_
  refine sv1 (str l) (ex_load1 0 (s := .v (str l)) (v := str l) sgT1 rfl A3 rfl rfl rfl) ?_
  refine sc1 (.tuple #[sv [.n 6 x, .n 6 y, .b i], .int .i64 e]) (ex_call (vs := [sv cvS1, str l]) rfl Tryz.call79 rfl) (hP _) ?_
  intro w9 hb9
  have A12 := A4.keep hb9
  have HB14 := HB6.then hb9
  refine sv1 (.tuple #[sv [.n 6 x, .n 6 y, .b i], .int .i64 e]) (ex_move _) ?_
  refine sv1 (sv [.n 6 x, .n 6 y, .b i]) (ex_extract rfl rfl) ?_
  refine sv1 (.int .i64 e) (ex_extract rfl rfl) ?_
  refine ss1 (ex_stores 0 3 (l := [.n 6 0, .n 6 0, .b false]) (m := [.n 6 x, .n 6 y, .b i]) flG1.2 rfl rfl rfl rfl A12 rfl rfl) ?_
  intro w18 hs18
  have A21 := hs18.here 0 3 (l' := [.n 6 x, .n 6 y, .b i]) A12 rfl rfl rfl
  have HB22 := HB14.old hs18 (.inl rfl)
  refine sv1 (.int .i64 e) (ex_assign _) ?_
  refine seq_nil ?_
  refine seq_lit ?_
  refine sv1 (.int .i64 e) (ex_move _) ?_
  refine sv1 (.int .i64 e) (ex_assign _) ?_
  refine seq_nil ?_
  exact wp_ret (bodyPost_ret (ret1 Tryz.results78 (res_tmp rfl)) rfl ⟨rfl, HB22, A21⟩)
theorem pt1get4_v (gc ga : Nat) (x : Nat) (y : Nat) (i : Bool) (e : Int) (hC : CI 81 #[sv cvS1, sv [.n 6 x, .n 6 y, .b i]] (.int .i64 e)) (w : World) (Ac : SB 63 w gc cvS1) (Aa : SB 26 w ga [.n 6 x, .n 6 y, .b i]) :
    Calls Tryz.prog 80 #[pz gc, pz ga] w (Is (.int .i64 e) w) := by
  go_enter Tryz.func80, Tryz.ntmps80
  refine rh0 (brf w) [2] [.int .i64 0] ?_ ?_
  · exact stpa .nil
  intro w1 hb1 HB4
  have A2 := Ac.keep hb1.out
  have A3 := Aa.keep hb1.out
  refine seq_lit ?_
  refine sv1 (sv cvS1) (ex_loads 0 11 (m := cvS1) flCv1 rfl rfl A2 rfl rfl) ?_
  refine sv1 (sv [.n 6 x, .n 6 y, .b i]) (ex_loads 0 3 (m := [.n 6 x, .n 6 y, .b i]) flG1 rfl rfl A3 rfl rfl) ?_
  refine sck HB4 Tryz.call81 (hC _) ?_
  intro w7 hb7 HB10
  refine sv1 (.int .i64 e) (ex_assign _) ?_
  refine seq_nil ?_
  exact wp_ret (bodyPost_ret (ret1 Tryz.results80 (res_tmp rfl)) rfl ⟨rfl, HB10⟩)
theorem pt1get_e (l : List UInt8) (x : Nat) (y : Nat) (i : Bool) (hL : CI 75 #[sv cvS1, str l] (.int .i64 0)) (h2 : ∀ (gs gc : Nat) (w : World) (_ : SB 9 w gs [.v (str l)]) (_ : SB 63 w gc cvS1), Calls Tryz.prog 76 #[pz gs, pz gc] w (Is (.int .i64 0) w)) (hP : CI 79 #[sv cvS1, str l] (.tuple #[sv [.n 6 x, .n 6 y, .b i], .int .i64 0])) (hC : CI 81 #[sv cvS1, sv [.n 6 x, .n 6 y, .b i]] (.int .i64 0)) (w : World) :
    Calls Tryz.prog 30 #[sv cvS1, str l] w (Is (.tuple #[sv [.n 6 x, .n 6 y, .b i], .int .i64 0]) w) := by
  go_enter Tryz.func30, Tryz.ntmps30
  refine rh3 (brf w) (63) 0 cvS1 9 1 [.v (str l)] 26 2 [.n 6 0, .n 6 0, .b false] [2, 3, 4, 5] (fun γ => [pz (γ 0), pz (γ 1), pz (γ 2), .int .i64 0]) ?_ ?_
  · refine stpb 0 (fun γ w h => ex_boxs (l := cvS1) rfl) ?_
    refine stpb 1 (fun γ w h => ex_box1 (s := .v (str l)) rfl rfl) ?_
    refine stpb 2 (fun γ w h => ex_allocs (l := [.n 6 0, .n 6 0, .b false]) zG1) ?_
    exact stpa .nil
  intro γ1 w1 hb1 A2 A3 A4 _ _ le4 hn1 HB5
  refine rh2 HB5 26 0 [.n 6 0, .n 6 0, .b false] 26 1 [.n 6 0, .n 6 0, .b false] [6, 7] (fun γ => [pz (γ 0), pz (γ 1)]) ?_ ?_
  · refine stpb 0 (fun γ w h => ex_allocs (l := [.n 6 0, .n 6 0, .b false]) zG1) ?_
    exact stpb 1 (fun γ w h => ex_allocs (l := [.n 6 0, .n 6 0, .b false]) zG1) .nil
  intro γ6 w6 hb6 A10 _ le10 _ hn6 HB12
  have A7 := A2.keep hb6.out
  have A8 := A3.keep hb6.out
  have A9 := A4.keep hb6.out
  refine seq_lit ?_
  refine sq_makes (a' := fun g13 => ⟨#[sv cvS1, str l, pz (γ1 0), pz (γ1 1), pz (γ1 2), .int .i64 0, pz (γ6 0), pz (γ6 1), undef, undef, .func (.func 126) #[] #[pz g13], undef, undef, undef, undef, undef, undef, undef, undef, undef, undef, undef, undef, undef, undef, undef, undef, undef], []⟩) (val := fun g13 => .func (.func 126) #[] #[pz g13]) (T := 27) (l := [.i .i64 0]) (fun _ => rfl) rfl (ex_call (vs := []) rfl Tryz.call73 rfl) (ptsteps_v _) ?_
  intro g13 w13 N13 le13 hb13
  have A14 := A7.keep hb13
  have A15 := A8.keep hb13
  have A16 := A9.keep hb13
  have A17 := A10.keep hb13
  have HB19 := below_then HB12 hb13
  refine sv1 (.func (.func 126) #[] #[pz g13]) (ex_assign _) ?_
  refine seq_nil ?_
  refine seq_lit ?_
  refine sv1 (.func (.func 126) #[] #[pz g13]) (ex_move _) ?_
  refine sv1 (.func (.func 74) #[] #[pz (γ1 0), pz (γ1 1)]) (ex_closure (cs := [pz (γ1 0), pz (γ1 1)]) rfl) ?_
  refine sk1 (.int .i64 0) (ex_callc (vs := [.func (.func 74) #[] #[pz (γ1 0), pz (γ1 1)]]) (cs := [pz g13]) rfl Tryz.call126 rfl) (pttake_is g13 74 [pz (γ1 0), pz (γ1 1)] Tryz.call74 0 _ (fun w_ hb_ => pt1get1_v ((γ1 0)) ((γ1 1)) l 0 hL w_ (A14.keep hb_) (A15.keep hb_)) N13) ?_
  rintro w23 ⟨hc23, N23_0⟩
  have A24 := hc23.kept _ _ _ (Nat.ne_of_lt (Nat.lt_of_lt_of_le A7.lt le13)) (Nat.ne_of_lt (Nat.lt_of_lt_of_le A7.lt le13)) A14
  have A25 := hc23.kept _ _ _ (Nat.ne_of_lt (Nat.lt_of_lt_of_le A8.lt le13)) (Nat.ne_of_lt (Nat.lt_of_lt_of_le A8.lt le13)) A15
  have A26 := hc23.kept _ _ _ (Nat.ne_of_lt (Nat.lt_of_lt_of_le A9.lt le13)) (Nat.ne_of_lt (Nat.lt_of_lt_of_le A9.lt le13)) A16
  have A27 := hc23.kept _ _ _ (Nat.ne_of_lt (Nat.lt_of_lt_of_le A10.lt le13)) (Nat.ne_of_lt (Nat.lt_of_lt_of_le A10.lt le13)) A17
  have HB29 := hc23.below HB19 (Nat.le_trans HB12.size le13) (Nat.le_trans HB12.size le13) rfl
  refine seq_nil ?_
  refine seq_lit ?_
  refine sv1 (.func (.func 126) #[] #[pz g13]) (ex_move _) ?_
  refine sv1 (.func (.func 76) #[] #[pz (γ1 1), pz (γ1 0)]) (ex_closure (cs := [pz (γ1 1), pz (γ1 0)]) rfl) ?_
  refine sk1 (.int .i64 0) (ex_callc (vs := [.func (.func 76) #[] #[pz (γ1 1), pz (γ1 0)]]) (cs := [pz g13]) rfl Tryz.call126 rfl) (pttake_is g13 76 [pz (γ1 1), pz (γ1 0)] Tryz.call76 0 _ (fun w_ hb_ => h2 ((γ1 1)) ((γ1 0)) w_ (A25.keep hb_) (A24.keep hb_)) N23_0) ?_
  rintro w32 ⟨hc32, N32_0⟩
  have A33 := hc32.kept _ _ _ (Nat.ne_of_lt (Nat.lt_of_lt_of_le A7.lt le13)) (Nat.ne_of_lt (Nat.lt_of_lt_of_le A7.lt le13)) A24
  have A34 := hc32.kept _ _ _ (Nat.ne_of_lt (Nat.lt_of_lt_of_le A8.lt le13)) (Nat.ne_of_lt (Nat.lt_of_lt_of_le A8.lt le13)) A25
  have A35 := hc32.kept _ _ _ (Nat.ne_of_lt (Nat.lt_of_lt_of_le A9.lt le13)) (Nat.ne_of_lt (Nat.lt_of_lt_of_le A9.lt le13)) A26
  have A36 := hc32.kept _ _ _ (Nat.ne_of_lt (Nat.lt_of_lt_of_le A10.lt le13)) (Nat.ne_of_lt (Nat.lt_of_lt_of_le A10.lt le13)) A27
  have HB38 := hc32.below HB29 (Nat.le_trans HB12.size le13) (Nat.le_trans HB12.size le13) rfl
  refine seq_nil ?_
  refine seq_lit ?_
  refine sv1 (.func (.func 126) #[] #[pz g13]) (ex_move _) ?_
  refine sv1 (.func (.func 78) #[] #[pz (γ1 0), pz (γ1 1), pz (γ6 0)]) (ex_closure (cs := [pz (γ1 0), pz (γ1 1), pz (γ6 0)]) rfl) ?_
  refine sk1 (.int .i64 0) (ex_callc (vs := [.func (.func 78) #[] #[pz (γ1 0), pz (γ1 1), pz (γ6 0)]]) (cs := [pz g13]) rfl Tryz.call126 rfl) (pttake_chg g13 78 [pz (γ1 0), pz (γ1 1), pz (γ6 0)] Tryz.call78 0 ((γ6 0)) (Ne.symm (Nat.ne_of_lt (Nat.lt_of_lt_of_le A10.lt le13))) 26 [.n 6 x, .n 6 y, .b i] _ [.n 6 0, .n 6 0, .b false] A36 (fun w_ hb_ => pt1get3_v ((γ1 0)) ((γ1 1)) ((γ6 0)) (Nat.ne_of_lt (Nat.lt_of_lt_of_le A2.lt le10)) (Nat.ne_of_lt (Nat.lt_of_lt_of_le A3.lt le10)) l x y i 0 hP w_ (A33.keep hb_) (A34.keep hb_) (A36.keep hb_)) N32_0) ?_
  rintro w41 ⟨hc41, N41_0, N41_1⟩
  have A42 := hc41.kept _ _ _ (Nat.ne_of_lt (Nat.lt_of_lt_of_le A7.lt le13)) (Nat.ne_of_lt (Nat.lt_of_lt_of_le A2.lt le10)) A33
  have A44 := hc41.kept _ _ _ (Nat.ne_of_lt (Nat.lt_of_lt_of_le A9.lt le13)) (Nat.ne_of_lt (Nat.lt_of_lt_of_le A4.lt le10)) A35
  have HB46 := hc41.below HB38 (Nat.le_trans HB12.size le13) (Nat.le_trans HB5.size le10) rfl
  refine seq_nil ?_
  refine wp_seq ?_
  refine seq_lit ?_
  refine sv1 (.func (.func 126) #[] #[pz g13]) (ex_move _) ?_
  refine sv1 (.func (.func 80) #[] #[pz (γ1 0), pz (γ6 0)]) (ex_closure (cs := [pz (γ1 0), pz (γ6 0)]) rfl) ?_
  refine sk1 (.int .i64 0) (ex_callc (vs := [.func (.func 80) #[] #[pz (γ1 0), pz (γ6 0)]]) (cs := [pz g13]) rfl Tryz.call126 rfl) (pttake_is g13 80 [pz (γ1 0), pz (γ6 0)] Tryz.call80 0 _ (fun w_ hb_ => pt1get4_v ((γ1 0)) ((γ6 0)) x y i 0 hC w_ (A42.keep hb_) (N41_1.keep hb_)) N41_0) ?_
  rintro w49 ⟨hc49, N49_0⟩
  have A52 := hc49.kept _ _ _ (Nat.ne_of_lt (Nat.lt_of_lt_of_le A9.lt le13)) (Nat.ne_of_lt (Nat.lt_of_lt_of_le A9.lt le13)) A44
  have A53 := hc49.kept _ _ _ (Nat.ne_of_lt (Nat.lt_of_lt_of_le A10.lt le13)) (Nat.ne_of_lt (Nat.lt_of_lt_of_le A10.lt le13)) N41_1
  have HB55 := hc49.below HB46 (Nat.le_trans HB12.size le13) (Nat.le_trans HB12.size le13) rfl
  refine sv1 (.int .i64 0) (ex_assign _) ?_
  refine seq_nil ?_
  refine rh0 HB55 [23, 24] [.int .i64 0, .bool false] ?_ ?_
  · refine stpm ?_
    exact stpx (fun _ _ => ex_neqi rfl rfl _ rfl) .nil
  intro w57 hb57 HB64
  have A60 := A52.keep hb57.out
  have A61 := A53.keep hb57.out
  refine wp_cond_false rfl ?_
  refine wp_skip ?_
  refine th_r ?_
  refine rhs HB64 le4 1 0 [.n 6 x, .n 6 y, .b i] [27, 5] [sv [.n 6 x, .n 6 y, .b i], .int .i64 0] ?_ ?_
  · refine latv (fun γ w h => ex_loads 0 3 (m := [.n 6 x, .n 6 y, .b i]) flG1 rfl rfl (A61.keep h.out) rfl rfl) ?_
    refine latq 0 3 flG1.2 A60 ?_
    exact lata (fun γ w h => ex_assign _) .nil
  intro w65 w65_ hb65 hs65 HB79
  have A68 := A60.keep hb65.out
  have A75 := hs65.here 0 3 (l' := [.n 6 x, .n 6 y, .b i]) A68 rfl rfl rfl
  exact wp_ret (bodyPost_ret (ret2 Tryz.results30 (res_sv rfl A75 flG1 rfl) (res_tmp rfl)) rfl ⟨rfl, HB79⟩)
theorem pt1get_q (l : List UInt8) (x : Nat) (y : Nat) (i : Bool) (e : Int) (hM : CI 30 #[sv cvS1, str l] (.tuple #[sv [.n 6 x, .n 6 y, .b i], .int .i64 e])) (w : World) :
    Calls Tryz.prog 7 #[str l] w (Is (.tuple #[sv [.n 6 x, .n 6 y, .b i], .int .i64 e]) w) := by
  go_enter Tryz.func7, Tryz.ntmps7
  refine rh1 (brf w) 26 0 [.n 6 0, .n 6 0, .b false] [2, 3] (fun γ => [pz (γ 0), .int .i64 0]) ?_ ?_
  · refine stpb 0 (fun γ w h => ex_allocs (l := [.n 6 0, .n 6 0, .b false]) zG1) ?_
    exact stpa .nil
  intro γ1 w1 hb1 A2 le2 HB3
  refine rhs HB3 le2 5 0 [.n 6 x, .n 6 y, .b i] [4, 5, 6, 7, 8, 3] [sv cvS1, str l, .tuple #[sv [.n 6 x, .n 6 y, .b i], .int .i64 e], sv [.n 6 x, .n 6 y, .b i], .int .i64 e, .int .i64 e] ?_ ?_
  · refine latk Tryz.call29 (fun w h => pt1first_v _) ?_
    refine latm ?_
    refine latk Tryz.call30 (fun w h => hM _) ?_
    refine latv (fun γ w h => ex_extract rfl rfl) ?_
    refine latv (fun γ w h => ex_extract rfl rfl) ?_
    refine latq 0 3 flG1.2 A2 ?_
    exact lata (fun γ w h => ex_assign _) .nil
  intro w4 w4_ hb4 hs4 HB8
  have A5 := A2.keep hb4.out
  have A7 := hs4.here 0 3 (l' := [.n 6 x, .n 6 y, .b i]) A5 rfl rfl rfl
  exact wp_ret (bodyPost_ret (ret2 Tryz.results7 (res_sv rfl A7 flG1 rfl) (res_tmp rfl)) rfl ⟨rfl, HB8⟩)
end

section
section
open Go.RowKit Cv
set_option maxRecDepth 20000
set_option maxHeartbeats 4000000
def ch (j : Nat) (l : List UInt8) : Nat := bval ((l.drop (48 * j)).take 48)
theorem pt1level_ok (x n : Zp) (v : Zp) (hn : n = x * x * x + (4 : Zp)) (hR : CI 12 #[nv 6 [n.val]] (.tuple #[nv 6 [v.val], .int .i64 0])) (w : World) :
    Calls Tryz.prog 69 #[nv 6 [x.val]] w (Is (.tuple #[nv 6 [v.val], .int .i64 0]) w) := by
  obtain ⟨z1, ez1⟩ : ∃ q_ : Zp, q_ = x * x := ⟨_, rfl⟩
  obtain ⟨z2, ez2⟩ : ∃ q_ : Zp, q_ = z1 * x := ⟨_, rfl⟩
  obtain ⟨z3, ez3⟩ : ∃ q_ : Zp, q_ = z2 + ((4 : Zp)) := ⟨_, rfl⟩
  obtain rfl : z3 = n := by rw [hn, ez3, ez2, ez1]
  go_enter Tryz.func69, Tryz.ntmps69
  refine rh2 (brf w) 24 0 [.n 6 x.val] 24 1 [.n 6 0] [1, 2, 3] (fun γ => [pz (γ 0), pz (γ 1), .int .i64 0]) ?_ ?_
  · refine stpb 0 (fun γ w h => ex_boxsn (K := 6) (l := [x.val]) rfl) ?_
    refine stpb 1 (fun γ w h => ex_allocsn (K := 6) (l := [0]) zFp) ?_
    exact stpa .nil
  intro γ1 w1 hb1 A2 A3 _ le3 hn1 HB4
  refine rhc HB4 [(24, 11, 12, [.n 6 0], [.n 6 v.val])] [7, 8, 9, 10, 11, 12, 13, 14, 6, 15, 16, 4, 5] (fun γ => [nv 6 [x.val], nv 6 [x.val], nv 6 [z1.val], nv 6 [x.val], nv 6 [z2.val], nv 6 [4], nv 6 [z3.val], .tuple #[nv 6 [v.val], .int .i64 0], .tuple #[nv 6 [v.val], .int .i64 0], nv 6 [v.val], .int .i64 0, pz (γ 0), .int .i64 0]) ?_ ?_
  · refine stpl 0 1 flFp A2 ?_
    refine stpl 0 1 flFp A2 ?_
    refine stpk Tryz.call43 (fun w h => fpMul_e x x z1 rfl rfl ez1 _) ?_
    refine stpl 0 1 flFp A2 ?_
    refine stpk Tryz.call43 (fun w h => fpMul_e z1 x z2 rfl rfl ez2 _) ?_
    refine stpx (fun _ _ => ex_limb6 (e := 4) (by decide) rfl) ?_
    refine stpc (nv 6 [z3.val]) (fun γ w => ex_call (vs := [nv 6 [z2.val], nv 6 [4]]) rfl Tryz.call114 rfl) (fun w h => fpAdd_e z2 ((4 : Zp)) z3 rfl (zc 4 (small_P (by decide))) ez3 _) ?_
    refine stpk Tryz.call12 (fun w h => hR _) ?_
    refine stpm ?_
    refine stpx (fun _ _ => ex_extract rfl rfl) ?_
    refine stpx (fun _ _ => ex_extract rfl rfl) ?_
    refine stpn 0 (fun γ w => ex_allocsn (K := 6) (l := [0]) zFp) ?_
    refine stpo 0 0 1 flFp.2 (nv_cells 6 [v.val]) ?_
    exact stpa .nil
  intro γ5 w5 hb5 hB5 _ HB9
  have A7 := A3.keep hb5.out
  have A8 : SB 24 w5 (γ5 0) [.n 6 v.val] := (hB5 0 rfl).2
  refine wp_seq ?_
  refine rh0 HB9 [17, 18] [.int .i64 0, .bool false] ?_ ?_
  · refine stpm ?_
    exact stpx (fun _ _ => ex_neqi rfl rfl _ rfl) .nil
  intro w10 hb10 HB14
  have A12 := A7.keep hb10.out
  have A13 := A8.keep hb10.out
  refine wp_cond_false rfl ?_
  refine wp_skip ?_
  refine th_r ?_
  refine rhs HB14 le3 1 0 [.n 6 v.val] [20, 3] [nv 6 [v.val], .int .i64 0] ?_ ?_
  · refine latl 0 1 flFp A13 ?_
    refine lato 0 1 flFp.2 (nv_cells 6 [v.val]) A12 ?_
    exact lata (fun γ w h => ex_assign _) .nil
  intro w15 w15_ hb15 hs15 HB23
  have A17 := A12.keep hb15.out
  have A21 := hs15.here 0 1 (l' := [.n 6 v.val]) A17 rfl rfl rfl
  exact wp_ret (bodyPost_ret (ret2 Tryz.results69 (res_nv (K := 6) (l := [v.val]) rfl A21 flFp rfl) (res_tmp rfl)) rfl ⟨rfl, HB23⟩)
theorem pt1rd_ok (l : List UInt8) (hl : l.length = 48) (x : Zp) (hx : bval l = x.val) (w : World) : Calls Tryz.prog 68 #[str l] w (Is (.tuple #[nv 6 [x.val], .int .i64 0]) w) := by
  have h := ptget_ok l hl (by rw [hx]; exact x.isLt) w
  rwa [hx] at h
theorem ch_0 (l : List UInt8) (hl : l.length = 48) : ch 0 l = bval l := by
  unfold ch
  rw [Nat.mul_zero, List.drop_zero, List.take_of_length_le (by omega)]
theorem ch_take (l : List UInt8) (j m : Nat) (hm : 48 * j + 48 ≤ m) : ch j (l.take m) = ch j l := by
  unfold ch
  rw [List.drop_take, List.take_take, Nat.min_eq_left (by omega)]
theorem ch_drop (l : List UInt8) (j i : Nat) : ch j (l.drop (48 * i)) = ch (i + j) l := by
  unfold ch
  rw [List.drop_drop, Nat.mul_add]
theorem pt1s_e (l : List UInt8) (hl : l.length = 48) (h7 : f7 (kOf l) = true) (h6 : f6 (kOf l) = false) (x : Nat) (y : Nat) (i : Bool) (hP : CI 129 #[sv cvS1, str ((low l)), .bool ((f5 (kOf l)))] (.tuple #[sv [.n 6 x, .n 6 y, .b i], .int .i64 0])) (hC : CI 81 #[sv cvS1, sv [.n 6 x, .n 6 y, .b i]] (.int .i64 0)) : CI 7 #[str l] (.tuple #[sv [.n 6 x, .n 6 y, .b i], .int .i64 0]) := by
  have hf : flagE (kOf l) true = 0 := by unfold flagE; rw [h7, h6]; cases f5 (kOf l) <;> rfl
  exact fun w => pt1get_q l x y i 0 (fun w => pt1get_e l x y i (fun w => pt1len_s l hl w) (fun gs gc w a b => pt1get2_s gs gc l hl 0 (fun w => ptflags_q l (by intro h; rw [h] at hl; cases hl) true 0 hf w) w a b) (fun w => pt1parse_short l (by intro h; rw [h] at hl; cases hl) (by omega) h6 h7 (f5 (kOf l)) rfl x y i 0 hP w) hC w) w
theorem pt1g_s_inf (l : List UInt8) (hl : l.length = 48) (h7 : f7 (kOf l) = true) (h6 : f6 (kOf l) = true) (h5 : f5 (kOf l) = false) (hz : zeros (low l) = true) : CI 7 #[str l] (.tuple #[sv [.n 6 0, .n 6 0, .b true], .int .i64 0]) := by
  have hf : flagE (kOf l) true = 0 := by unfold flagE; rw [h7, h6, h5]; rfl
  exact fun w => pt1get_q l 0 0 true 0 (fun w => pt1get_e l 0 0 true (fun w => pt1len_s l hl w) (fun gs gc w a b => pt1get2_s gs gc l hl 0 (fun w => ptflags_q l (by intro h; rw [h] at hl; cases hl) true 0 hf w) w a b) (fun w => pt1parse_inf l (by intro h; rw [h] at hl; cases hl) h6 0 (fun w => ptzeros_yes l (by intro h; rw [h] at hl; cases hl) (by omega) hz w) w) (fun w => pt1check_in EP.zero (EP.times_zero C1 rN) w) w) w
theorem pt1f_e (l : List UInt8) (hl : l.length = 96) (h7 : f7 (kOf l) = false) (h6 : f6 (kOf l) = false) (h5 : f5 (kOf l) = false) (x : Nat) (y : Nat) (i : Bool) (hP : CI 131 #[sv cvS1, str l] (.tuple #[sv [.n 6 x, .n 6 y, .b i], .int .i64 0])) (hC : CI 81 #[sv cvS1, sv [.n 6 x, .n 6 y, .b i]] (.int .i64 0)) : CI 7 #[str l] (.tuple #[sv [.n 6 x, .n 6 y, .b i], .int .i64 0]) := by
  have hf : flagE (kOf l) false = 0 := by unfold flagE; rw [h7, h6, h5]; rfl
  exact fun w => pt1get_q l x y i 0 (fun w => pt1get_e l x y i (fun w => pt1len_f l hl w) (fun gs gc w a b => pt1get2_f gs gc l hl 0 (fun w => ptflags_q l (by intro h; rw [h] at hl; cases hl) false 0 hf w) w a b) (fun w => pt1parse_full l (by intro h; rw [h] at hl; cases hl) h6 h7 x y i 0 hP w) hC w) w
theorem pt1g_f_inf (l : List UInt8) (hl : l.length = 96) (h7 : f7 (kOf l) = false) (h6 : f6 (kOf l) = true) (h5 : f5 (kOf l) = false) (hz : zeros (low l) = true) : CI 7 #[str l] (.tuple #[sv [.n 6 0, .n 6 0, .b true], .int .i64 0]) := by
  have hf : flagE (kOf l) false = 0 := by unfold flagE; rw [h7, h6, h5]; rfl
  exact fun w => pt1get_q l 0 0 true 0 (fun w => pt1get_e l 0 0 true (fun w => pt1len_f l hl w) (fun gs gc w a b => pt1get2_f gs gc l hl 0 (fun w => ptflags_q l (by intro h; rw [h] at hl; cases hl) false 0 hf w) w a b) (fun w => pt1parse_inf l (by intro h; rw [h] at hl; cases hl) h6 0 (fun w => ptzeros_yes l (by intro h; rw [h] at hl; cases hl) (by omega) hz w) w) (fun w => pt1check_in EP.zero (EP.times_zero C1 rN) w) w) w
theorem pt1cur (P : E1) (x y : Zp) (hP : P.pt = .aff x y) : y * y = x * x * x + (4 : Zp) ∧ y ≠ 0 := by
  have h := P.on
  rw [hP] at h
  have h' : y * y = x * x * x + (4 : Zp) := h
  refine ⟨h', fun e => ?_⟩
  refine hN1 x ?_
  rw [← h', e]
  clear h h' e hP
  grind
theorem pt1s_par (l : List UInt8) (hl : l.length = 48) (P : E1) (x y : Zp) (hP : P.pt = .aff x y) (hx : ch 0 ((low l)) = x.val) (h5 : f5 (kOf l) = pHigh y.val) : CI 129 #[sv cvS1, str ((low l)), .bool ((f5 (kOf l)))] (.tuple #[sv [.n 6 x.val, .n 6 y.val, .b false], .int .i64 0]) := by
  have hm : (low l).length = 48 := by rw [length_low]; exact hl
  obtain ⟨hcur, hy0⟩ := pt1cur P x y hP
  rcases root1 (x * x * x + (4 : Zp)) with ⟨v, hv, hvh, hR, _⟩ | ⟨hno, _⟩
  · have hyv := pick1 (hv.trans hcur.symm) hy0 hvh
    have hV := pt1level_ok x _ v rfl hR
    cases hu : pHigh y.val with
    | false =>
      rw [hu] at h5
      rw [hu, if_neg Bool.false_ne_true] at hyv
      subst hyv
      rw [h5]
      exact fun w => pt1short_bf (low l) x.val y.val 0 (fun w => pt1rd_ok (low l) hm x ((ch_0 _ hm).symm.trans hx) w) hV w
    | true =>
      rw [hu] at h5
      rw [hu, if_pos rfl] at hyv
      subst hyv
      rw [h5]
      exact fun w => pt1short_bt (low l) x.val v.val 0 (fun w => pt1rd_ok (low l) hm x ((ch_0 _ hm).symm.trans hx) w) hV (-v).val (fun w => fpNeg_e v (-v) rfl rfl w) w
  · exact absurd hcur (hno y)
theorem pt1g_s_in (l : List UInt8) (hl : l.length = 48) (h7 : f7 (kOf l) = true) (h6 : f6 (kOf l) = false) (P : E1) (x y : Zp) (hP : P.pt = .aff x y) (hx : ch 0 ((low l)) = x.val) (h5 : f5 (kOf l) = pHigh y.val) (hT : EP.times C1 rN P = EP.zero) : CI 7 #[str l] (.tuple #[sv [.n 6 (ax P.pt), .n 6 (ay P.pt), .b (ai P.pt)], .int .i64 0]) := by
  have hC := pt1check_in P hT
  rw [hP] at hC ⊢
  exact pt1s_e l hl h7 h6 _ _ _ (pt1s_par l hl P x y hP hx h5) hC
theorem pt1f_par (l : List UInt8) (hl : l.length = 96) (x y : Zp) (hx : ch 0 l = x.val) (hy : ch 1 l = y.val) : CI 131 #[sv cvS1, str l] (.tuple #[sv [.n 6 x.val, .n 6 y.val, .b false], .int .i64 0]) := by
  exact fun w => pt1full_b l (by omega) x.val y.val 0 (fun w => pt1rd_ok (l.take 48) (by simp; omega) x ((ch_0 _ (by simp; omega)).symm.trans ((ch_take l 0 48 (by decide)).trans hx)) w) (fun w => pt1rd_ok (l.drop 48) (by simp; omega) y ((ch_0 _ (by simp; omega)).symm.trans ((ch_drop l 0 1).trans hy)) w) w
theorem pt1g_f_in (l : List UInt8) (hl : l.length = 96) (h7 : f7 (kOf l) = false) (h6 : f6 (kOf l) = false) (h5 : f5 (kOf l) = false) (P : E1) (x y : Zp) (hx : ch 0 l = x.val) (hy : ch 1 l = y.val) (hP : P.pt = .aff x y) (hT : EP.times C1 rN P = EP.zero) : CI 7 #[str l] (.tuple #[sv [.n 6 (ax P.pt), .n 6 (ay P.pt), .b (ai P.pt)], .int .i64 0]) := by
  have hC := pt1check_in P hT
  rw [hP] at hC ⊢
  exact pt1f_e l hl h7 h6 h5 _ _ _ (pt1f_par l hl x y hx hy) hC
end

section
open Go.RowKit Cv
set_option maxRecDepth 20000
set_option maxHeartbeats 4000000
theorem pt2level_ok (x n : Zq) (v : Zq) (hn : n = x * x * x + b2) (hR : CI 20 #[nv 6 [n.re.val, n.im.val]] (.tuple #[nv 6 [v.re.val, v.im.val], .int .i64 0])) (w : World) :
    Calls Tryz.prog 98 #[nv 6 [x.re.val, x.im.val]] w (Is (.tuple #[nv 6 [v.re.val, v.im.val], .int .i64 0]) w) := by
  obtain ⟨z1, ez1⟩ : ∃ q_ : Zq, q_ = x * x := ⟨_, rfl⟩
  obtain ⟨z2, ez2⟩ : ∃ q_ : Zq, q_ = z1 * x := ⟨_, rfl⟩
  obtain ⟨z3, ez3⟩ : ∃ q_ : Zq, q_ = z2 + b2 := ⟨_, rfl⟩
  obtain rfl : z3 = n := by rw [hn, ez3, ez2, ez1]
  go_enter Tryz.func98, Tryz.ntmps98
  refine rh2 (brf w) 43 0 [.n 6 x.re.val, .n 6 x.im.val] 43 1 [.n 6 0, .n 6 0] [1, 2, 3] (fun γ => [pz (γ 0), pz (γ 1), .int .i64 0]) ?_ ?_
  · refine stpb 0 (fun γ w h => ex_boxsn (K := 6) (l := [x.re.val, x.im.val]) rfl) ?_
    refine stpb 1 (fun γ w h => ex_allocsn (K := 6) (l := [0, 0]) zFp2) ?_
    exact stpa .nil
  intro γ1 w1 hb1 A2 A3 _ le3 hn1 HB4
  refine rhc HB4 [(43, 3, 4, [.n 6 0, .n 6 0], [.n 6 4, .n 6 4])] [7, 8, 9, 4] (fun γ => [nv 6 [4], nv 6 [4], nv 6 [4, 4], pz (γ 0)]) ?_ ?_
  · refine stpx (fun _ _ => ex_limb6 (e := 4) (by decide) rfl) ?_
    refine stpx (fun _ _ => ex_limb6 (e := 4) (by decide) rfl) ?_
    refine stpx (fun _ _ => ex_build stFp2 (vs := [(0, nv 6 [4]), (1, nv 6 [4])]) rfl (bdAB 4 4)) ?_
    refine stpn 0 (fun γ w => ex_allocsn (K := 6) (l := [0, 0]) zFp2) ?_
    exact stpo 0 0 2 flFp2.2 (nv_cells 6 [4, 4]) .nil
  intro γ5 w5 hb5 hB5 _ HB9
  have A6 := A2.keep hb5.out
  have A7 := A3.keep hb5.out
  have A8 : SB 43 w5 (γ5 0) [.n 6 4, .n 6 4] := (hB5 0 rfl).2
  refine rhc HB9 [(43, 11, 12, [.n 6 0, .n 6 0], [.n 6 v.re.val, .n 6 v.im.val])] [11, 12, 13, 14, 15, 16, 17, 18, 10, 19, 20, 5, 6] (fun γ => [nv 6 [x.re.val, x.im.val], nv 6 [x.re.val, x.im.val], nv 6 [z1.re.val, z1.im.val], nv 6 [x.re.val, x.im.val], nv 6 [z2.re.val, z2.im.val], nv 6 [4, 4], nv 6 [z3.re.val, z3.im.val], .tuple #[nv 6 [v.re.val, v.im.val], .int .i64 0], .tuple #[nv 6 [v.re.val, v.im.val], .int .i64 0], nv 6 [v.re.val, v.im.val], .int .i64 0, pz (γ 0), .int .i64 0]) ?_ ?_
  · refine stpl 0 2 flFp2 A6 ?_
    refine stpl 0 2 flFp2 A6 ?_
    refine stpk Tryz.call150 (fun w h => duoMul_z x x z1 rfl rfl ez1 _) ?_
    refine stpl 0 2 flFp2 A6 ?_
    refine stpk Tryz.call150 (fun w h => duoMul_z z1 x z2 rfl rfl ez2 _) ?_
    refine stpl 0 2 flFp2 A8 ?_
    refine stpk Tryz.call149 (fun w h => duoAdd_z z2 b2 z3 rfl qc44 ez3 _) ?_
    refine stpk Tryz.call20 (fun w h => hR _) ?_
    refine stpm ?_
    refine stpx (fun _ _ => ex_extract rfl rfl) ?_
    refine stpx (fun _ _ => ex_extract rfl rfl) ?_
    refine stpn 0 (fun γ w => ex_allocsn (K := 6) (l := [0, 0]) zFp2) ?_
    refine stpo 0 0 2 flFp2.2 (nv_cells 6 [v.re.val, v.im.val]) ?_
    exact stpa .nil
  intro γ10 w10 hb10 hB10 _ HB15
  have A12 := A7.keep hb10.out
  have A14 : SB 43 w10 (γ10 0) [.n 6 v.re.val, .n 6 v.im.val] := (hB10 0 rfl).2
  refine wp_seq ?_
  refine rh0 HB15 [21, 22] [.int .i64 0, .bool false] ?_ ?_
  · refine stpm ?_
    exact stpx (fun _ _ => ex_neqi rfl rfl _ rfl) .nil
  intro w16 hb16 HB21
  have A18 := A12.keep hb16.out
  have A20 := A14.keep hb16.out
  refine wp_cond_false rfl ?_
  refine wp_skip ?_
  refine th_r ?_
  refine rhs HB21 le3 1 0 [.n 6 v.re.val, .n 6 v.im.val] [24, 3] [nv 6 [v.re.val, v.im.val], .int .i64 0] ?_ ?_
  · refine latl 0 2 flFp2 A20 ?_
    refine lato 0 2 flFp2.2 (nv_cells 6 [v.re.val, v.im.val]) A18 ?_
    exact lata (fun γ w h => ex_assign _) .nil
  intro w22 w22_ hb22 hs22 HB32
  have A24 := A18.keep hb22.out
  have A29 := hs22.here 0 2 (l' := [.n 6 v.re.val, .n 6 v.im.val]) A24 rfl rfl rfl
  exact wp_ret (bodyPost_ret (ret2 Tryz.results98 (res_nv (K := 6) (l := [v.re.val, v.im.val]) rfl A29 flFp2 rfl) (res_tmp rfl)) rfl ⟨rfl, HB32⟩)
theorem ch_1 (l : List UInt8) (hl : l.length = 96) : ch 1 l = bval (l.drop 48) := by
  unfold ch
  rw [Nat.mul_one, List.take_of_length_le (by simp; omega)]
theorem ch_00 (l : List UInt8) : ch 0 l = bval (l.take 48) := by
  unfold ch
  rw [Nat.mul_zero, List.drop_zero]
theorem pt2rd_ok (l : List UInt8) (hl : l.length = 96) (x : Zq) (hB : ch 0 l = x.im.val) (hA : ch 1 l = x.re.val) (w : World) : Calls Tryz.prog 97 #[str l] w (Is (.tuple #[nv 6 [x.re.val, x.im.val], .int .i64 0]) w) := by
  rw [ch_00] at hB
  rw [ch_1 l hl] at hA
  exact ptread2_b l (by omega) _ _ 0 (fun w => pt1rd_ok (l.take 48) (by simp; omega) x.im hB w) (fun w => pt1rd_ok (l.drop 48) (by simp; omega) x.re hA w) w
theorem pt2s_e (l : List UInt8) (hl : l.length = 96) (h7 : f7 (kOf l) = true) (h6 : f6 (kOf l) = false) (x0 : Nat) (x1 : Nat) (y0 : Nat) (y1 : Nat) (i : Bool) (hP : CI 153 #[sv cvS2, str ((low l)), .bool ((f5 (kOf l)))] (.tuple #[sv [.n 6 x0, .n 6 x1, .n 6 y0, .n 6 y1, .b i], .int .i64 0])) (hC : CI 109 #[sv cvS2, sv [.n 6 x0, .n 6 x1, .n 6 y0, .n 6 y1, .b i]] (.int .i64 0)) : CI 17 #[str l] (.tuple #[sv [.n 6 x0, .n 6 x1, .n 6 y0, .n 6 y1, .b i], .int .i64 0]) := by
  have hf : flagE (kOf l) true = 0 := by unfold flagE; rw [h7, h6]; cases f5 (kOf l) <;> rfl
  exact fun w => pt2get_q l x0 x1 y0 y1 i 0 (fun w => pt2get_e l x0 x1 y0 y1 i (fun w => pt2len_s l hl w) (fun gs gc w a b => pt2get2_s gs gc l hl 0 (fun w => ptflags_q l (by intro h; rw [h] at hl; cases hl) true 0 hf w) w a b) (fun w => pt2parse_short l (by intro h; rw [h] at hl; cases hl) (by omega) h6 h7 (f5 (kOf l)) rfl x0 x1 y0 y1 i 0 hP w) hC w) w
theorem pt2g_s_inf (l : List UInt8) (hl : l.length = 96) (h7 : f7 (kOf l) = true) (h6 : f6 (kOf l) = true) (h5 : f5 (kOf l) = false) (hz : zeros (low l) = true) : CI 17 #[str l] (.tuple #[sv [.n 6 0, .n 6 0, .n 6 0, .n 6 0, .b true], .int .i64 0]) := by
  have hf : flagE (kOf l) true = 0 := by unfold flagE; rw [h7, h6, h5]; rfl
  exact fun w => pt2get_q l 0 0 0 0 true 0 (fun w => pt2get_e l 0 0 0 0 true (fun w => pt2len_s l hl w) (fun gs gc w a b => pt2get2_s gs gc l hl 0 (fun w => ptflags_q l (by intro h; rw [h] at hl; cases hl) true 0 hf w) w a b) (fun w => pt2parse_inf l (by intro h; rw [h] at hl; cases hl) h6 0 (fun w => ptzeros_yes l (by intro h; rw [h] at hl; cases hl) (by omega) hz w) w) (fun w => pt2check_in EP.zero (EP.times_zero C2 rN) w) w) w
theorem pt2f_e (l : List UInt8) (hl : l.length = 192) (h7 : f7 (kOf l) = false) (h6 : f6 (kOf l) = false) (h5 : f5 (kOf l) = false) (x0 : Nat) (x1 : Nat) (y0 : Nat) (y1 : Nat) (i : Bool) (hP : CI 154 #[sv cvS2, str l] (.tuple #[sv [.n 6 x0, .n 6 x1, .n 6 y0, .n 6 y1, .b i], .int .i64 0])) (hC : CI 109 #[sv cvS2, sv [.n 6 x0, .n 6 x1, .n 6 y0, .n 6 y1, .b i]] (.int .i64 0)) : CI 17 #[str l] (.tuple #[sv [.n 6 x0, .n 6 x1, .n 6 y0, .n 6 y1, .b i], .int .i64 0]) := by
  have hf : flagE (kOf l) false = 0 := by unfold flagE; rw [h7, h6, h5]; rfl
  exact fun w => pt2get_q l x0 x1 y0 y1 i 0 (fun w => pt2get_e l x0 x1 y0 y1 i (fun w => pt2len_f l hl w) (fun gs gc w a b => pt2get2_f gs gc l hl 0 (fun w => ptflags_q l (by intro h; rw [h] at hl; cases hl) false 0 hf w) w a b) (fun w => pt2parse_full l (by intro h; rw [h] at hl; cases hl) h6 h7 x0 x1 y0 y1 i 0 hP w) hC w) w
theorem pt2g_f_inf (l : List UInt8) (hl : l.length = 192) (h7 : f7 (kOf l) = false) (h6 : f6 (kOf l) = true) (h5 : f5 (kOf l) = false) (hz : zeros (low l) = true) : CI 17 #[str l] (.tuple #[sv [.n 6 0, .n 6 0, .n 6 0, .n 6 0, .b true], .int .i64 0]) := by
  have hf : flagE (kOf l) false = 0 := by unfold flagE; rw [h7, h6, h5]; rfl
  exact fun w => pt2get_q l 0 0 0 0 true 0 (fun w => pt2get_e l 0 0 0 0 true (fun w => pt2len_f l hl w) (fun gs gc w a b => pt2get2_f gs gc l hl 0 (fun w => ptflags_q l (by intro h; rw [h] at hl; cases hl) false 0 hf w) w a b) (fun w => pt2parse_inf l (by intro h; rw [h] at hl; cases hl) h6 0 (fun w => ptzeros_yes l (by intro h; rw [h] at hl; cases hl) (by omega) hz w) w) (fun w => pt2check_in EP.zero (EP.times_zero C2 rN) w) w) w
theorem pt2cur (P : E2) (x y : Zq) (hP : P.pt = .aff x y) : y * y = x * x * x + b2 ∧ y ≠ 0 := by
  have h := P.on
  rw [hP] at h
  have h' : y * y = x * x * x + b2 := h
  refine ⟨h', fun e => ?_⟩
  refine hN2 x ?_
  rw [← h', e]
  clear h h' e hP
  grind
theorem pt2s_par (l : List UInt8) (hl : l.length = 96) (P : E2) (x y : Zq) (hP : P.pt = .aff x y) (hxB : ch 0 ((low l)) = x.im.val) (hxA : ch 1 ((low l)) = x.re.val) (h5 : f5 (kOf l) = dHigh y.re.val y.im.val) : CI 153 #[sv cvS2, str ((low l)), .bool ((f5 (kOf l)))] (.tuple #[sv [.n 6 x.re.val, .n 6 x.im.val, .n 6 y.re.val, .n 6 y.im.val, .b false], .int .i64 0]) := by
  have hm : (low l).length = 96 := by rw [length_low]; exact hl
  obtain ⟨hcur, hy0⟩ := pt2cur P x y hP
  rcases root2 (x * x * x + b2) with ⟨v, hv, hvh, hR, _⟩ | ⟨hno, _⟩
  · have hyv := pick2 (hv.trans hcur.symm) hy0 hvh
    have hV := pt2level_ok x _ v rfl hR
    cases hu : dHigh y.re.val y.im.val with
    | false =>
      rw [hu] at h5
      rw [hu, if_neg Bool.false_ne_true] at hyv
      subst hyv
      rw [h5]
      exact fun w => pt2short_bf (low l) x.re.val x.im.val y.re.val y.im.val 0 (fun w => pt2rd_ok (low l) hm x hxB hxA w) hV w
    | true =>
      rw [hu] at h5
      rw [hu, if_pos rfl] at hyv
      subst hyv
      rw [h5]
      exact fun w => pt2short_bt (low l) x.re.val x.im.val v.re.val v.im.val 0 (fun w => pt2rd_ok (low l) hm x hxB hxA w) hV (-v).re.val (-v).im.val (fun w => duoNeg_z v (-v) rfl rfl w) w
  · exact absurd hcur (hno y)
theorem pt2g_s_in (l : List UInt8) (hl : l.length = 96) (h7 : f7 (kOf l) = true) (h6 : f6 (kOf l) = false) (P : E2) (x y : Zq) (hP : P.pt = .aff x y) (hxB : ch 0 ((low l)) = x.im.val) (hxA : ch 1 ((low l)) = x.re.val) (h5 : f5 (kOf l) = dHigh y.re.val y.im.val) (hT : EP.times C2 rN P = EP.zero) : CI 17 #[str l] (.tuple #[sv [.n 6 (bx0 P.pt), .n 6 (bx1 P.pt), .n 6 (by0 P.pt), .n 6 (by1 P.pt), .b (bi P.pt)], .int .i64 0]) := by
  have hC := pt2check_in P hT
  rw [hP] at hC ⊢
  exact pt2s_e l hl h7 h6 _ _ _ _ _ (pt2s_par l hl P x y hP hxB hxA h5) hC
theorem pt2f_par (l : List UInt8) (hl : l.length = 192) (x y : Zq) (hxB : ch 0 l = x.im.val) (hxA : ch 1 l = x.re.val) (hyB : ch 2 l = y.im.val) (hyA : ch 3 l = y.re.val) : CI 154 #[sv cvS2, str l] (.tuple #[sv [.n 6 x.re.val, .n 6 x.im.val, .n 6 y.re.val, .n 6 y.im.val, .b false], .int .i64 0]) := by
  exact fun w => pt2full_b l (by omega) x.re.val x.im.val y.re.val y.im.val 0 (fun w => pt2rd_ok (l.take 96) (by simp; omega) x ((ch_take l 0 96 (by decide)).trans hxB) ((ch_take l 1 96 (by decide)).trans hxA) w) (fun w => pt2rd_ok (l.drop 96) (by simp; omega) y ((ch_drop l 0 2).trans hyB) ((ch_drop l 1 2).trans hyA) w) w
theorem pt2g_f_in (l : List UInt8) (hl : l.length = 192) (h7 : f7 (kOf l) = false) (h6 : f6 (kOf l) = false) (h5 : f5 (kOf l) = false) (P : E2) (x y : Zq) (hxB : ch 0 l = x.im.val) (hxA : ch 1 l = x.re.val) (hyB : ch 2 l = y.im.val) (hyA : ch 3 l = y.re.val) (hP : P.pt = .aff x y) (hT : EP.times C2 rN P = EP.zero) : CI 17 #[str l] (.tuple #[sv [.n 6 (bx0 P.pt), .n 6 (bx1 P.pt), .n 6 (by0 P.pt), .n 6 (by1 P.pt), .b (bi P.pt)], .int .i64 0]) := by
  have hC := pt2check_in P hT
  rw [hP] at hC ⊢
  exact pt2f_e l hl h7 h6 h5 _ _ _ _ _ (pt2f_par l hl x y hxB hxA hyB hyA) hC
end
end
end
end
end Go.Proofs.YtplbcdafelejbaaGreatDoor

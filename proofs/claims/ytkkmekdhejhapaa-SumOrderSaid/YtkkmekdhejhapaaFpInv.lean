/- What is proved here: the contract of fp.Inv: of any number it is its power of p - 2, by steps of Bernstein and Yang. -/
import Derived.Test.YtkkmekdhejhapaaFpInv3
namespace Go.Proofs.Ytkkmekdhejhapaa
open Go.RowKit
set_option maxRecDepth 20000
set_option maxHeartbeats 4000000
theorem fpClean_i (a : Nat) (ha : a < fpB) (v : Nat) (hv : v = a % pN) (w : World) : Calls Try.prog 52 #[nv 6 [a]] w (Is (nv 6 [v]) w) := by
  rw [← nv6I, ← nv6I]
  exact fpClean_v a w ha v hv
theorem fpnumber_b {t : TypeId} {g u v : Nat} {w : World} (h : SB t w g [.n 7 u]) (hu : u = v) (hv : v < fpB) (w0 : World) (e : w0 = w := by rfl) : Calls Try.prog 55 #[.slice (some ⟨g, 0, none⟩) 6 7] w0 (Is (nv 6 [v]) w0) := by
  subst hu e
  rw [← nv6I]
  refine fpnumber_v _ 6 7 u _ rfl ?_
  have h1 : Arr t w0 g (row 7 u) := by
    have e1 : segs [.n 7 u] = cellsOf (row 7 u) := by
      show cellsOf (row 7 u) ++ [] = _
      rw [List.append_nil]
    unfold SB at h
    rw [e1] at h
    exact h
  have h2 := h1.vrow.take 6
  rwa [← row7_of hv, List.take_left' (length_row _ _)] at h2
theorem one_in {x : Int} (h1 : -(pN : Int) ≤ x) (h2 : x ≤ (pN : Int)) : -(hB : Int) ≤ x ∧ x < (hB : Int) := by
  have := pN_hB
  have := pOne
  omega
theorem wr_all (x : Int) : ∀ y ∈ [wr x], y < 2 ^ (64 * 7) := fun y hy => by
  obtain rfl := List.mem_singleton.1 hy
  rw [← wB_eq]
  exact wr_lt x
theorem neq_end {x : Int} (h : x = 0) : false = !decide ([wr x] = [wr 0]) := by
  rw [h, decide_eq_true rfl]
  rfl
theorem neq_on {n : Nat} {s : IS} (h : IT n s) (hz : s.g ≠ 0) : true = !decide ([wr s.g] = [wr 0]) := by
  have hne : ¬ [wr s.g] = [wr 0] := by
    intro e
    injection e with e
    rw [wr_zero] at e
    obtain ⟨q, hq⟩ := wr_form s.g
    have h1 := h.g0
    have h2 := h.g1
    have h3 := pN_hB
    have h4 := wB_half
    have h5 := pOne
    rw [e] at hq
    generalize wB = W at *
    have : q = 0 := by
      rcases Int.lt_trichotomy q 0 with c | c | c
      · exfalso
        have : (W : Int) * q ≤ (W : Int) * (-1) := Int.mul_le_mul_of_nonneg_left (by omega) (by omega)
        omega
      · exact c
      · exfalso
        have : (W : Int) * 1 ≤ (W : Int) * q := Int.mul_le_mul_of_nonneg_left (by omega) (by omega)
        omega
    subst this
    omega
  rw [decide_eq_false hne]
  rfl
theorem wdWalk_i {n : Nat} {s : IS} (h : IT n s) (w : World) : Calls Try.prog 88 #[.int .i64 s.t, .int .u64 ((lb (wr s.f) 0 : Nat) : Int), .int .u64 ((lb (wr s.g) 0 : Nat) : Int)] w (Is (.tuple #[.int .i64 (iw s).t, sv [.i .i64 (iw s).a, .i .i64 (iw s).b, .i .i64 (iw s).c, .i .i64 (iw s).d]]) w) :=
  wdWalk_0 (f0 := s.f) (g0 := s.g) s.t _ _ h.walk w
theorem isn_t (n A k : Nat) : (isn n A (k + 1)).t = (iw (isn n A k)).t := by rw [isn_succ, istep_t]
theorem isw_f (n : Nat) (s : IS) (W : WS) : (isw n s W).f = (s.f * W.a + s.g * W.b) / 2 ^ 60 := rfl
theorem isw_g (n : Nat) (s : IS) (W : WS) : (isw n s W).g = (s.f * W.c + s.g * W.d) / 2 ^ 60 := rfl
theorem isw_d (n : Nat) (s : IS) (W : WS) : (isw n s W).d = dv n (s.d * W.a + s.e * W.b) := rfl
theorem isw_e (n : Nat) (s : IS) (W : WS) : (isw n s W).e = dv n (s.d * W.c + s.e * W.d) := rfl
theorem isn_f (n A k : Nat) : (isn n A (k + 1)).f = ((isn n A k).f * (iw (isn n A k)).a + (isn n A k).g * (iw (isn n A k)).b) / 2 ^ 60 := isw_f n (isn n A k) (iw (isn n A k))
theorem isn_g (n A k : Nat) : (isn n A (k + 1)).g = ((isn n A k).f * (iw (isn n A k)).c + (isn n A k).g * (iw (isn n A k)).d) / 2 ^ 60 := isw_g n (isn n A k) (iw (isn n A k))
theorem isn_d (n A k : Nat) : (isn n A (k + 1)).d = dv n ((isn n A k).d * (iw (isn n A k)).a + (isn n A k).e * (iw (isn n A k)).b) := isw_d n (isn n A k) (iw (isn n A k))
theorem isn_e (n A k : Nat) : (isn n A (k + 1)).e = dv n ((isn n A k).d * (iw (isn n A k)).c + (isn n A k).e * (iw (isn n A k)).d) := isw_e n (isn n A k) (iw (isn n A k))
theorem inv_end {n A N v : Nat} {r : Int} (h1 : ∀ k, k ≤ N → IA n A k) (hA : A < pN) (h3 : (isn n A N).g = 0) (h4 : A = 0 → N = 0) (hv : v = A ^ (pN - 2) % pN)
    (hr : r = (if (isn n A N).f < 0 then -(isn n A N).d else (isn n A N).d) + (if (if (isn n A N).f < 0 then -(isn n A N).d else (isn n A N).d) < 0 then (pN : Int) else 0)) : wr r = v := by
  have h := (h1 N (Nat.le_refl _)).iv.done hA h3 h4 hr
  rw [h, hv]
  exact wr_nat (fpB_wB (Nat.lt_trans (Nat.mod_lt _ (by have := pOne; omega)) fpM_ltI))
theorem neg_there : ∃ n, NegOf (lb pN 0) n := ⟨9940570264628428797, by decide, fun h => absurd h (by decide +kernel), fun _ => by decide +kernel⟩
theorem wdInverse_v (n : Nat) (hn : NegOf (lb pN 0) n) (A : Nat) (hA : A < pN) (v : Nat) (hvp : v = A ^ (pN - 2) % pN) : CI 71 #[nv 6 [A]] (nv 6 [v]) := fun w => by
  obtain ⟨N, h1, h2, h3, h4⟩ := turns n A hn hA
  have hI := (h1 N (Nat.le_refl _)).iv
  have hf1 : -(hB : Int) ≤ (isn n A N).f ∧ (isn n A N).f < (hB : Int) := one_in (hI.inn hA).2.1 (hI.inn hA).2.2.1
  have hd1 : -(hB : Int) ≤ (isn n A N).d ∧ (isn n A N).d < (hB : Int) := one_in hI.d1 hI.d2
  have hd2 : -(hB : Int) ≤ -(isn n A N).d ∧ -(isn n A N).d < (hB : Int) := one_in (by have := hI.d2; omega) (by have := hI.d1; omega)
  have hvB : v < fpB := by rw [hvp]; exact Nat.lt_trans (Nat.mod_lt _ (by have := pOne; omega)) fpM_ltI
  go_enter Try.func71, Try.ntmps71
  refine rh2 (brf w) 26 0 [.n 6 A] 26 1 [.n 6 0] [1, 2] (fun γ => [pz (γ 0), pz (γ 1)]) ?_ ?_
  · refine stpb 0 (fun γ w h => ex_boxsn (K := 6) (l := [A]) rfl) ?_
    exact stpb 1 (fun γ w h => ex_allocsn (K := 6) (l := [0]) zFpI) .nil
  intro γ1 w1 hb1 A2 A3 _ le3 hn1 HB4
  refine rhc HB4 [(114, 4, 6, [.n 7 0], [.n 7 (wr (pN : Int))]), (114, 5, 7, [.n 7 0], [.n 7 (wr (A : Int))])] [9, 10, 11, 12, 3, 4] (fun γ => [nv 6 [pN], nv 7 [wr (pN : Int)], nv 6 [A], nv 7 [wr (A : Int)], pz (γ 0), pz (γ 1)]) ?_ ?_
  · refine stpk Try.call31 (fun w h => fpmodulus_i _) ?_
    refine stpk Try.call87 (fun w h => wdWiden_i pN fpM_ltI _) ?_
    refine stpl 0 1 flFpI A2 ?_
    refine stpk Try.call87 (fun w h => wdWiden_i A (Nat.lt_trans hA fpM_ltI) _) ?_
    refine stpn 0 (fun γ w => ex_allocsn (K := 7) (l := [0]) zWd) ?_
    refine stpn 1 (fun γ w => ex_allocsn (K := 7) (l := [0]) zWd) ?_
    refine stpo 0 0 1 flWd.2 (nv_cells 7 [wr (pN : Int)]) ?_
    exact stpo 1 0 1 flWd.2 (nv_cells 7 [wr (A : Int)]) .nil
  intro γ5 w5 hb5 hB5 hn5 HB10
  have A6 := A2.keep hb5.out
  have A7 := A3.keep hb5.out
  have A8 : SB 114 w5 (γ5 0) [.n 7 (wr (pN : Int))] := (hB5 0 rfl).2
  have le8 := (hB5 0 rfl).1
  have A9 : SB 114 w5 (γ5 1) [.n 7 (wr (A : Int))] := (hB5 1 rfl).2
  have le9 := (hB5 1 rfl).1
  refine rhc HB10 [(114, 2, 4, [.n 7 0], [.n 7 (wr 0)]), (114, 3, 5, [.n 7 0], [.n 7 (wr 1)])] [13, 14, 5, 6] (fun γ => [nv 7 [wr 0], nv 7 [wr 1], pz (γ 0), pz (γ 1)]) ?_ ?_
  · refine stpx (fun _ _ => ex_zeroQ) ?_
    refine stpx (fun _ _ => ex_oneQ rfl) ?_
    refine stpn 0 (fun γ w => ex_allocsn (K := 7) (l := [0]) zWd) ?_
    refine stpn 1 (fun γ w => ex_allocsn (K := 7) (l := [0]) zWd) ?_
    refine stpo 0 0 1 flWd.2 (nv_cells 7 [wr 0]) ?_
    exact stpo 1 0 1 flWd.2 (nv_cells 7 [wr 1]) .nil
  intro γ11 w11 hb11 hB11 hn11 HB18
  have A12 := A6.keep hb11.out
  have A13 := A7.keep hb11.out
  have A14 := A8.keep hb11.out
  have A15 := A9.keep hb11.out
  have A16 : SB 114 w11 (γ11 0) [.n 7 (wr 0)] := (hB11 0 rfl).2
  have le16 := (hB11 0 rfl).1
  have A17 : SB 114 w11 (γ11 1) [.n 7 (wr 1)] := (hB11 1 rfl).2
  have le17 := (hB11 1 rfl).1
  refine wp_seq ?_
  refine rh0 HB18 [7] [.int .i64 1] ?_ ?_
  · exact stpa .nil
  intro w19 hb19 HB26
  have A20 := A12.keep hb19.out
  have A21 := A13.keep hb19.out
  have A22 := A14.keep hb19.out
  have A23 := A15.keep hb19.out
  have A24 := A16.keep hb19.out
  have A25 := A17.keep hb19.out
  refine wp_block ?_
  refine wp_loop_by (N) (fun q_ a_ v_ => ∃ j8 j15 j16 j17 j18 j19 j20 j21 j22 j23 j24 j25 j26 j27 j28 j29 j30 j31 j32 j33 j34 j35 j36 j37 j38 j39 j40 j41 j42 j43 j44 j45 j46 j47 j48 j49 j50 : Value, a_ = ⟨List.toArray ((nv 6 [A]) :: (pz (γ1 0)) :: (pz (γ1 1)) :: (pz (γ5 0)) :: (pz (γ5 1)) :: (pz (γ11 0)) :: (pz (γ11 1)) :: (.int .i64 (isn n A q_).t) :: j8 :: (nv 6 [pN]) :: (nv 7 [wr (pN : Int)]) :: (nv 6 [A]) :: (nv 7 [wr (A : Int)]) :: (nv 7 [wr 0]) :: (nv 7 [wr 1]) :: j15 :: j16 :: j17 :: j18 :: j19 :: j20 :: j21 :: j22 :: j23 :: j24 :: j25 :: j26 :: j27 :: j28 :: j29 :: j30 :: j31 :: j32 :: j33 :: j34 :: j35 :: j36 :: j37 :: j38 :: j39 :: j40 :: j41 :: j42 :: j43 :: j44 :: j45 :: j46 :: j47 :: j48 :: j49 :: j50 :: undef :: undef :: undef :: undef :: undef :: undef :: undef :: undef :: undef :: undef :: undef :: undef :: []), []⟩ ∧ SB 26 v_ (γ1 0) [.n 6 A] ∧ SB 26 v_ (γ1 1) [.n 6 0] ∧ SB 114 v_ (γ5 0) [.n 7 (wr (isn n A q_).f)] ∧ SB 114 v_ (γ5 1) [.n 7 (wr (isn n A q_).g)] ∧ SB 114 v_ (γ11 0) [.n 7 (wr (isn n A q_).d)] ∧ SB 114 v_ (γ11 1) [.n 7 (wr (isn n A q_).e)] ∧ Below w.heap.size w v_) ⟨_, _, _, _, _, _, _, _, _, _, _, _, _, _, _, _, _, _, _, _, _, _, _, _, _, _, _, _, _, _, _, _, _, _, _, _, _, rfl, A20, A21, A22, A23, A24, A25, HB26⟩ ?_ ?_
  · intro k27 hk27
    rintro _ w27 ⟨i27_8, i27_15, i27_16, i27_17, i27_18, i27_19, i27_20, i27_21, i27_22, i27_23, i27_24, i27_25, i27_26, i27_27, i27_28, i27_29, i27_30, i27_31, i27_32, i27_33, i27_34, i27_35, i27_36, i27_37, i27_38, i27_39, i27_40, i27_41, i27_42, i27_43, i27_44, i27_45, i27_46, i27_47, i27_48, i27_49, i27_50, rfl, A27_0, A27_1, A27_2, A27_3, A27_4, A27_5, HB27⟩ K27 hK27
    have hz := h2 k27 hk27
    have hT := (h1 k27 (Nat.le_of_lt hk27)).turn hA hz
    have hj1 := big_in (fac_bound hT.f0 hT.f1 hT.g0 hT.g1 hT.b1).1 (fac_bound hT.f0 hT.f1 hT.g0 hT.g1 hT.b1).2
    have hj2 := big_in (fac_bound hT.f0 hT.f1 hT.g0 hT.g1 hT.b2).1 (fac_bound hT.f0 hT.f1 hT.g0 hT.g1 hT.b2).2
    have hv1 := fac_bound hT.d0 hT.d1 hT.e0 hT.e1 hT.b1
    have hv2 := fac_bound hT.d0 hT.d1 hT.e0 hT.e1 hT.b2
    refine wp_seq ?_
    refine rh0 HB27 [15, 16, 17] [nv 7 [wr (isn n A k27).g], nv 7 [wr 0], .bool true] ?_ ?_
    · refine stpv (fun γ w h => ex_loadsn (K := 7) 0 1 (m := [wr (isn n A k27).g]) flWd rfl rfl (A27_3.keep h.out) rfl rfl) ?_
      refine stpx (fun _ _ => ex_zeroQ) ?_
      exact stpx (fun _ _ => ex_neqn (K := 7) (l := [wr (isn n A k27).g]) (m := [wr 0]) eqWd rfl rfl rfl rfl rfl (wr_all _) (wr_all _) rfl true (neq_on hT hz)) .nil
    intro w28 hb28 HB35
    have A29 := A27_0.keep hb28.out
    have A30 := A27_1.keep hb28.out
    have A31 := A27_2.keep hb28.out
    have A32 := A27_3.keep hb28.out
    have A33 := A27_4.keep hb28.out
    have A34 := A27_5.keep hb28.out
    refine wp_cond_true rfl ?_
    refine wp_skip ?_
    refine th_r ?_
    refine wp_block ?_
    refine rh1 HB35 118 0 [.i .i64 0, .i .i64 0, .i .i64 0, .i .i64 0] [8] (fun γ => [pz (γ 0)]) ?_ ?_
    · exact stpb 0 (fun γ w h => ex_allocs (l := [.i .i64 0, .i .i64 0, .i .i64 0, .i .i64 0]) zFa) .nil
    intro γ36 w36 hb36 A43 le43 HB44
    have A37 := A29.keep hb36.out
    have A38 := A30.keep hb36.out
    have A39 := A31.keep hb36.out
    have A40 := A32.keep hb36.out
    have A41 := A33.keep hb36.out
    have A42 := A34.keep hb36.out
    refine seq_lit ?_
    refine svm (.int .i64 (isn n A k27).t) ?_
    refine sv1 (pz (γ5 0)) (ex_at (i := 0) (g := (γ5 0)) Try.underlying114 Try.sizeOf24 rfl rfl (by decide)) ?_
    refine sv1 (.int .u64 ((lb (wr (isn n A k27).f) 0 : Nat) : Int)) (ex_ldl (v := wr (isn n A k27).f) (o := 0) A39 (by decide) rfl) ?_
    refine sv1 (pz (γ5 1)) (ex_at (i := 0) (g := (γ5 1)) Try.underlying114 Try.sizeOf24 rfl rfl (by decide)) ?_
    refine sv1 (.int .u64 ((lb (wr (isn n A k27).g) 0 : Nat) : Int)) (ex_ldl (v := wr (isn n A k27).g) (o := 0) A40 (by decide) rfl) ?_
    refine sck HB44 Try.call88 (wdWalk_i hT _) ?_
    intro w50 hb50 HB58
    have A51 := A37.keep hb50
    have A52 := A38.keep hb50
    have A53 := A39.keep hb50
    have A54 := A40.keep hb50
    have A55 := A41.keep hb50
    have A56 := A42.keep hb50
    have A57 := A43.keep hb50
    refine svm (.tuple #[.int .i64 (iw (isn n A k27)).t, sv [.i .i64 ((iw (isn n A k27)).a), .i .i64 ((iw (isn n A k27)).b), .i .i64 ((iw (isn n A k27)).c), .i .i64 ((iw (isn n A k27)).d)]]) ?_
    refine sv1 (.int .i64 (iw (isn n A k27)).t) (ex_extract rfl rfl) ?_
    refine sv1 (sv [.i .i64 ((iw (isn n A k27)).a), .i .i64 ((iw (isn n A k27)).b), .i .i64 ((iw (isn n A k27)).c), .i .i64 ((iw (isn n A k27)).d)]) (ex_extract rfl rfl) ?_
    refine sva (.int .i64 (iw (isn n A k27)).t) ?_
    refine ss1 (ex_stores 0 4 (l := [.i .i64 0, .i .i64 0, .i .i64 0, .i .i64 0]) (m := [.i .i64 ((iw (isn n A k27)).a), .i .i64 ((iw (isn n A k27)).b), .i .i64 ((iw (isn n A k27)).c), .i .i64 ((iw (isn n A k27)).d)]) flFa.2 rfl rfl rfl rfl A57 rfl rfl) ?_
    intro w63 hs63
    have A64 := hs63.other (nelt (ltle A29.lt le43)) A51
    have A65 := hs63.other (nelt (ltle A30.lt le43)) A52
    have A66 := hs63.other (nelt (ltle A31.lt le43)) A53
    have A67 := hs63.other (nelt (ltle A32.lt le43)) A54
    have A68 := hs63.other (nelt (ltle A33.lt le43)) A55
    have A69 := hs63.other (nelt (ltle A34.lt le43)) A56
    have A70 := hs63.here 0 4 (l' := [.i .i64 ((iw (isn n A k27)).a), .i .i64 ((iw (isn n A k27)).b), .i .i64 ((iw (isn n A k27)).c), .i .i64 ((iw (isn n A k27)).d)]) A57 rfl rfl rfl
    have HB71 := hs63.below HB58 (Nat.le_trans HB35.size le43)
    refine seq_nil ?_
    refine wp_seq (region_m2 (F := fun _ => ⟨List.toArray ((nv 6 [A]) :: (pz (γ1 0)) :: (pz (γ1 1)) :: (pz (γ5 0)) :: (pz (γ5 1)) :: (pz (γ11 0)) :: (pz (γ11 1)) :: (.int .i64 (iw (isn n A k27)).t) :: (pz (γ36 0)) :: (nv 6 [pN]) :: (nv 7 [wr (pN : Int)]) :: (nv 6 [A]) :: (nv 7 [wr (A : Int)]) :: (nv 7 [wr 0]) :: (nv 7 [wr 1]) :: (nv 7 [wr (isn n A k27).g]) :: (nv 7 [wr 0]) :: (.bool true) :: (.tuple #[.int .i64 (iw (isn n A k27)).t, sv [.i .i64 ((iw (isn n A k27)).a), .i .i64 ((iw (isn n A k27)).b), .i .i64 ((iw (isn n A k27)).c), .i .i64 ((iw (isn n A k27)).d)]]) :: (.int .i64 (isn n A k27).t) :: (pz (γ5 0)) :: (.int .u64 ((lb (wr (isn n A k27).f) 0 : Nat) : Int)) :: (pz (γ5 1)) :: (.int .u64 ((lb (wr (isn n A k27).g) 0 : Nat) : Int)) :: (.tuple #[.int .i64 (iw (isn n A k27)).t, sv [.i .i64 ((iw (isn n A k27)).a), .i .i64 ((iw (isn n A k27)).b), .i .i64 ((iw (isn n A k27)).c), .i .i64 ((iw (isn n A k27)).d)]]) :: (.int .i64 (iw (isn n A k27)).t) :: (sv [.i .i64 ((iw (isn n A k27)).a), .i .i64 ((iw (isn n A k27)).b), .i .i64 ((iw (isn n A k27)).c), .i .i64 ((iw (isn n A k27)).d)]) :: (nv 7 [wr (isn n A k27).f]) :: (nv 7 [wr (isn n A k27).g]) :: (pz (γ36 0)) :: (sv [.i .i64 ((iw (isn n A k27)).a), .i .i64 ((iw (isn n A k27)).b)]) :: (nv 7 [wr ((isn n A k27).f * (iw (isn n A k27)).a + (isn n A k27).g * (iw (isn n A k27)).b)]) :: (nv 7 [wr (((isn n A k27).f * (iw (isn n A k27)).a + (isn n A k27).g * (iw (isn n A k27)).b) / 2 ^ 60)]) :: (nv 7 [wr (isn n A k27).f]) :: (nv 7 [wr (isn n A k27).g]) :: (pq (γ36 0) 2) :: (sv [.i .i64 ((iw (isn n A k27)).c), .i .i64 ((iw (isn n A k27)).d)]) :: (nv 7 [wr ((isn n A k27).f * (iw (isn n A k27)).c + (isn n A k27).g * (iw (isn n A k27)).d)]) :: (nv 7 [wr (((isn n A k27).f * (iw (isn n A k27)).c + (isn n A k27).g * (iw (isn n A k27)).d) / 2 ^ 60)]) :: i27_39 :: i27_40 :: i27_41 :: i27_42 :: i27_43 :: i27_44 :: i27_45 :: i27_46 :: i27_47 :: i27_48 :: i27_49 :: i27_50 :: undef :: undef :: undef :: undef :: undef :: undef :: undef :: undef :: undef :: undef :: undef :: undef :: []), []⟩) 12 ((γ5 0)) 0 (segs [.n 7 (wr (((isn n A k27).f * (iw (isn n A k27)).a + (isn n A k27).g * (iw (isn n A k27)).b) / 2 ^ 60))]) 13 ((γ5 1)) 0 (segs [.n 7 (wr (((isn n A k27).f * (iw (isn n A k27)).c + (isn n A k27).g * (iw (isn n A k27)).d) / 2 ^ 60))]) 0 (fun _ => 0) (fun _ => 0) (fun _ => 0) (fun _ => []) (fun _ => []) [27, 28, 29, 30, 31, 32, 33, 34, 35, 36, 37, 38] (.inl ⟨rfl, by kernel_rfl⟩) (by kernel_rfl) rfl rfl rfl ?_ ?_)
    · refine GSteps.cons (late_step (late_step (gm_val (v := nv 7 [wr (isn n A k27).f]) rfl (fun _ => rfl) (fun _ => rfl) (fun γ w h => ex_loadsn (K := 7) 0 1 (m := [wr (isn n A k27).f]) flWd rfl rfl (A66.keep h.out) rfl rfl) rfl) (by kernel_rfl) rfl) (by kernel_rfl) rfl) ?_
      refine GSteps.cons (late_step (late_step (gm_val (v := nv 7 [wr (isn n A k27).g]) rfl (fun _ => rfl) (fun _ => rfl) (fun γ w h => ex_loadsn (K := 7) 0 1 (m := [wr (isn n A k27).g]) flWd rfl rfl (A67.keep h.out) rfl rfl) rfl) (by kernel_rfl) rfl) (by kernel_rfl) rfl) ?_
      refine GSteps.cons (late_step (late_step (gm_valg (fun γ => pz (γ36 0)) rfl (fun _ => rfl) (fun _ => rfl) (fun γ w h => ex_field faFa_0 rfl) rfl) (by kernel_rfl) rfl) (by kernel_rfl) rfl) ?_
      refine GSteps.cons (late_step (late_step (gm_val (v := sv [.i .i64 ((iw (isn n A k27)).a), .i .i64 ((iw (isn n A k27)).b)]) rfl (fun _ => rfl) (fun _ => rfl) (fun γ w h => ex_loads 0 2 (m := [.i .i64 ((iw (isn n A k27)).a), .i .i64 ((iw (isn n A k27)).b)]) flPr rfl rfl (A70.keep h.out) rfl rfl) rfl) (by kernel_rfl) rfl) (by kernel_rfl) rfl) ?_
      refine GSteps.cons (late_step (late_step (gm_call (v := nv 7 [wr ((isn n A k27).f * (iw (isn n A k27)).a + (isn n A k27).g * (iw (isn n A k27)).b)]) rfl (fun _ => rfl) (fun _ => rfl) (fun γ w => ex_call (vs := [nv 7 [wr (isn n A k27).f], nv 7 [wr (isn n A k27).g], sv [.i .i64 ((iw (isn n A k27)).a), .i .i64 ((iw (isn n A k27)).b)]]) rfl Try.call89 rfl) (fun w h => wdJoin_v (isn n A k27).f (isn n A k27).g (iw (isn n A k27)).a (iw (isn n A k27)).b hT.b1 _) rfl) (by kernel_rfl) rfl) (by kernel_rfl) rfl) ?_
      refine GSteps.cons (late_step (late_step (gm_call (v := nv 7 [wr (((isn n A k27).f * (iw (isn n A k27)).a + (isn n A k27).g * (iw (isn n A k27)).b) / 2 ^ 60)]) rfl (fun _ => rfl) (fun _ => rfl) (fun γ w => ex_call (vs := [nv 7 [wr ((isn n A k27).f * (iw (isn n A k27)).a + (isn n A k27).g * (iw (isn n A k27)).b)]]) rfl Try.call90 rfl) (fun w h => wdDown_v ((isn n A k27).f * (iw (isn n A k27)).a + (isn n A k27).g * (iw (isn n A k27)).b) hj1.1 hj1.2 _) rfl) (by kernel_rfl) rfl) (by kernel_rfl) rfl) ?_
      refine GSteps.cons (late_step (late_step (gm_val (v := nv 7 [wr (isn n A k27).f]) rfl (fun _ => rfl) (fun _ => rfl) (fun γ w h => ex_loadsn (K := 7) 0 1 (m := [wr (isn n A k27).f]) flWd rfl rfl (A66.keep h.out) rfl rfl) rfl) (by kernel_rfl) rfl) (by kernel_rfl) rfl) ?_
      refine GSteps.cons (late_step (late_chain [11, 10] (gm_val (v := nv 7 [wr (isn n A k27).g]) rfl (fun _ => rfl) (fun _ => rfl) (fun γ w h => ex_loadsn (K := 7) 0 1 (m := [wr (isn n A k27).g]) flWd rfl rfl (A67.keep h.out) rfl rfl) rfl) (by kernel_rfl) rfl) (by kernel_rfl) rfl) ?_
      refine GSteps.cons (late_step (late_chain [11, 10, 9] (gm_valg (fun γ => pq (γ36 0) 2) rfl (fun _ => rfl) (fun _ => rfl) (fun γ w h => ex_field faFa_1 rfl) rfl) (by kernel_rfl) rfl) (by kernel_rfl) rfl) ?_
      refine GSteps.cons (late_step (late_chain [11, 10] (gm_val (v := sv [.i .i64 ((iw (isn n A k27)).c), .i .i64 ((iw (isn n A k27)).d)]) rfl (fun _ => rfl) (fun _ => rfl) (fun γ w h => ex_loads 2 2 (m := [.i .i64 ((iw (isn n A k27)).c), .i .i64 ((iw (isn n A k27)).d)]) flPr rfl rfl (A70.keep h.out) rfl rfl) rfl) (by kernel_rfl) rfl) (by kernel_rfl) rfl) ?_
      refine GSteps.cons (late_step (late_chain [11] (gm_call (v := nv 7 [wr ((isn n A k27).f * (iw (isn n A k27)).c + (isn n A k27).g * (iw (isn n A k27)).d)]) rfl (fun _ => rfl) (fun _ => rfl) (fun γ w => ex_call (vs := [nv 7 [wr (isn n A k27).f], nv 7 [wr (isn n A k27).g], sv [.i .i64 ((iw (isn n A k27)).c), .i .i64 ((iw (isn n A k27)).d)]]) rfl Try.call89 rfl) (fun w h => wdJoin_v (isn n A k27).f (isn n A k27).g (iw (isn n A k27)).c (iw (isn n A k27)).d hT.b2 _) rfl) (by kernel_rfl) rfl) (by kernel_rfl) rfl) ?_
      refine GSteps.cons (late_step (late_step (gm_call (v := nv 7 [wr (((isn n A k27).f * (iw (isn n A k27)).c + (isn n A k27).g * (iw (isn n A k27)).d) / 2 ^ 60)]) rfl (fun _ => rfl) (fun _ => rfl) (fun γ w => ex_call (vs := [nv 7 [wr ((isn n A k27).f * (iw (isn n A k27)).c + (isn n A k27).g * (iw (isn n A k27)).d)]]) rfl Try.call90 rfl) (fun w h => wdDown_v ((isn n A k27).f * (iw (isn n A k27)).c + (isn n A k27).g * (iw (isn n A k27)).d) hj2.1 hj2.2 _) rfl) (by kernel_rfl) rfl) (by kernel_rfl) rfl) ?_
      refine GSteps.cons (late_step (late_store rfl (fun _ => rfl) (fun γ w h => ex_stores 0 1 (l := [.n 7 (wr (isn n A k27).f)]) (m := [.n 7 (wr (((isn n A k27).f * (iw (isn n A k27)).a + (isn n A k27).g * (iw (isn n A k27)).b) / 2 ^ 60))]) flWd.2 rfl rfl rfl (nv_cells 7 [wr (((isn n A k27).f * (iw (isn n A k27)).a + (isn n A k27).g * (iw (isn n A k27)).b) / 2 ^ 60)]) (A66.keep h.out) rfl rfl) rfl) (by kernel_rfl) rfl) ?_
      refine GSteps.cons (late_store2 rfl (fun _ => rfl) (fun γ w w1 h hs => ex_stores 0 1 (l := [.n 7 (wr (isn n A k27).g)]) (m := [.n 7 (wr (((isn n A k27).f * (iw (isn n A k27)).c + (isn n A k27).g * (iw (isn n A k27)).d) / 2 ^ 60))]) flWd.2 rfl rfl rfl (nv_cells 7 [wr (((isn n A k27).f * (iw (isn n A k27)).c + (isn n A k27).g * (iw (isn n A k27)).d) / 2 ^ 60)]) (hs.other (Ne.symm (hn5 0 1 rfl rfl (by decide))) (A67.keep h.out)) rfl rfl) rfl rfl rfl (by kernel_rfl)) ?_
      exact GSteps.nil
    intro _ w72 w72_ w72__ hb72 _ _ hs72 hs72_
    refine th_r ?_
    have A73 := A64.keep hb72.out
    have A74 := A65.keep hb72.out
    have A75 := A66.keep hb72.out
    have A76 := A67.keep hb72.out
    have A77 := A68.keep hb72.out
    have A78 := A69.keep hb72.out
    have A79 := A70.keep hb72.out
    have HB80 := below_then HB71 hb72.out
    have A81 := hs72.other (nelt (ltle A2.lt le8)) A73
    have A82 := hs72.other (nelt (ltle A3.lt le8)) A74
    have A83 := hs72.here 0 1 (l' := [.n 7 (wr (((isn n A k27).f * (iw (isn n A k27)).a + (isn n A k27).g * (iw (isn n A k27)).b) / 2 ^ 60))]) A75 rfl rfl rfl
    have A84 := hs72.other (Ne.symm (hn5 0 1 rfl rfl (by decide))) A76
    have A85 := hs72.other (Ne.symm (nelt (ltle A8.lt le16))) A77
    have A86 := hs72.other (Ne.symm (nelt (ltle A8.lt le17))) A78
    have A87 := hs72.other (Ne.symm (nelt (ltle A31.lt le43))) A79
    have HB88 := hs72.below HB80 (Nat.le_trans HB4.size le8)
    have A89 := hs72_.other (nelt (ltle A2.lt le9)) A81
    have A90 := hs72_.other (nelt (ltle A3.lt le9)) A82
    have A91 := hs72_.other (hn5 0 1 rfl rfl (by decide)) A83
    have A92 := hs72_.here 0 1 (l' := [.n 7 (wr (((isn n A k27).f * (iw (isn n A k27)).c + (isn n A k27).g * (iw (isn n A k27)).d) / 2 ^ 60))]) A84 rfl rfl rfl
    have A93 := hs72_.other (Ne.symm (nelt (ltle A9.lt le16))) A85
    have A94 := hs72_.other (Ne.symm (nelt (ltle A9.lt le17))) A86
    have A95 := hs72_.other (Ne.symm (nelt (ltle A32.lt le43))) A87
    have HB96 := hs72_.below HB88 (Nat.le_trans HB4.size le9)
    refine region_m2 (F := fun _ => ⟨List.toArray ((nv 6 [A]) :: (pz (γ1 0)) :: (pz (γ1 1)) :: (pz (γ5 0)) :: (pz (γ5 1)) :: (pz (γ11 0)) :: (pz (γ11 1)) :: (.int .i64 (iw (isn n A k27)).t) :: (pz (γ36 0)) :: (nv 6 [pN]) :: (nv 7 [wr (pN : Int)]) :: (nv 6 [A]) :: (nv 7 [wr (A : Int)]) :: (nv 7 [wr 0]) :: (nv 7 [wr 1]) :: (nv 7 [wr (isn n A k27).g]) :: (nv 7 [wr 0]) :: (.bool true) :: (.tuple #[.int .i64 (iw (isn n A k27)).t, sv [.i .i64 ((iw (isn n A k27)).a), .i .i64 ((iw (isn n A k27)).b), .i .i64 ((iw (isn n A k27)).c), .i .i64 ((iw (isn n A k27)).d)]]) :: (.int .i64 (isn n A k27).t) :: (pz (γ5 0)) :: (.int .u64 ((lb (wr (isn n A k27).f) 0 : Nat) : Int)) :: (pz (γ5 1)) :: (.int .u64 ((lb (wr (isn n A k27).g) 0 : Nat) : Int)) :: (.tuple #[.int .i64 (iw (isn n A k27)).t, sv [.i .i64 ((iw (isn n A k27)).a), .i .i64 ((iw (isn n A k27)).b), .i .i64 ((iw (isn n A k27)).c), .i .i64 ((iw (isn n A k27)).d)]]) :: (.int .i64 (iw (isn n A k27)).t) :: (sv [.i .i64 ((iw (isn n A k27)).a), .i .i64 ((iw (isn n A k27)).b), .i .i64 ((iw (isn n A k27)).c), .i .i64 ((iw (isn n A k27)).d)]) :: (nv 7 [wr (isn n A k27).f]) :: (nv 7 [wr (isn n A k27).g]) :: (pz (γ36 0)) :: (sv [.i .i64 ((iw (isn n A k27)).a), .i .i64 ((iw (isn n A k27)).b)]) :: (nv 7 [wr ((isn n A k27).f * (iw (isn n A k27)).a + (isn n A k27).g * (iw (isn n A k27)).b)]) :: (nv 7 [wr (((isn n A k27).f * (iw (isn n A k27)).a + (isn n A k27).g * (iw (isn n A k27)).b) / 2 ^ 60)]) :: (nv 7 [wr (isn n A k27).f]) :: (nv 7 [wr (isn n A k27).g]) :: (pq (γ36 0) 2) :: (sv [.i .i64 ((iw (isn n A k27)).c), .i .i64 ((iw (isn n A k27)).d)]) :: (nv 7 [wr ((isn n A k27).f * (iw (isn n A k27)).c + (isn n A k27).g * (iw (isn n A k27)).d)]) :: (nv 7 [wr (((isn n A k27).f * (iw (isn n A k27)).c + (isn n A k27).g * (iw (isn n A k27)).d) / 2 ^ 60)]) :: (nv 7 [wr (isn n A k27).d]) :: (nv 7 [wr (isn n A k27).e]) :: (pz (γ36 0)) :: (sv [.i .i64 ((iw (isn n A k27)).a), .i .i64 ((iw (isn n A k27)).b)]) :: (nv 7 [wr ((isn n A k27).d * (iw (isn n A k27)).a + (isn n A k27).e * (iw (isn n A k27)).b)]) :: (nv 7 [wr (dv n ((isn n A k27).d * (iw (isn n A k27)).a + (isn n A k27).e * (iw (isn n A k27)).b))]) :: (nv 7 [wr (isn n A k27).d]) :: (nv 7 [wr (isn n A k27).e]) :: (pq (γ36 0) 2) :: (sv [.i .i64 ((iw (isn n A k27)).c), .i .i64 ((iw (isn n A k27)).d)]) :: (nv 7 [wr ((isn n A k27).d * (iw (isn n A k27)).c + (isn n A k27).e * (iw (isn n A k27)).d)]) :: (nv 7 [wr (dv n ((isn n A k27).d * (iw (isn n A k27)).c + (isn n A k27).e * (iw (isn n A k27)).d))]) :: undef :: undef :: undef :: undef :: undef :: undef :: undef :: undef :: undef :: undef :: undef :: undef :: []), []⟩) 12 ((γ11 0)) 0 (segs [.n 7 (wr (dv n ((isn n A k27).d * (iw (isn n A k27)).a + (isn n A k27).e * (iw (isn n A k27)).b)))]) 13 ((γ11 1)) 0 (segs [.n 7 (wr (dv n ((isn n A k27).d * (iw (isn n A k27)).c + (isn n A k27).e * (iw (isn n A k27)).d)))]) 0 (fun _ => 0) (fun _ => 0) (fun _ => 0) (fun _ => []) (fun _ => []) [39, 40, 41, 42, 43, 44, 45, 46, 47, 48, 49, 50] (.inl ⟨rfl, by kernel_rfl⟩) (by kernel_rfl) rfl rfl rfl ?_ ?_
    · refine GSteps.cons (late_step (late_step (gm_val (v := nv 7 [wr (isn n A k27).d]) rfl (fun _ => rfl) (fun _ => rfl) (fun γ w h => ex_loadsn (K := 7) 0 1 (m := [wr (isn n A k27).d]) flWd rfl rfl (A93.keep h.out) rfl rfl) rfl) (by kernel_rfl) rfl) (by kernel_rfl) rfl) ?_
      refine GSteps.cons (late_step (late_step (gm_val (v := nv 7 [wr (isn n A k27).e]) rfl (fun _ => rfl) (fun _ => rfl) (fun γ w h => ex_loadsn (K := 7) 0 1 (m := [wr (isn n A k27).e]) flWd rfl rfl (A94.keep h.out) rfl rfl) rfl) (by kernel_rfl) rfl) (by kernel_rfl) rfl) ?_
      refine GSteps.cons (late_step (late_step (gm_valg (fun γ => pz (γ36 0)) rfl (fun _ => rfl) (fun _ => rfl) (fun γ w h => ex_field faFa_0 rfl) rfl) (by kernel_rfl) rfl) (by kernel_rfl) rfl) ?_
      refine GSteps.cons (late_step (late_step (gm_val (v := sv [.i .i64 ((iw (isn n A k27)).a), .i .i64 ((iw (isn n A k27)).b)]) rfl (fun _ => rfl) (fun _ => rfl) (fun γ w h => ex_loads 0 2 (m := [.i .i64 ((iw (isn n A k27)).a), .i .i64 ((iw (isn n A k27)).b)]) flPr rfl rfl (A95.keep h.out) rfl rfl) rfl) (by kernel_rfl) rfl) (by kernel_rfl) rfl) ?_
      refine GSteps.cons (late_step (late_step (gm_call (v := nv 7 [wr ((isn n A k27).d * (iw (isn n A k27)).a + (isn n A k27).e * (iw (isn n A k27)).b)]) rfl (fun _ => rfl) (fun _ => rfl) (fun γ w => ex_call (vs := [nv 7 [wr (isn n A k27).d], nv 7 [wr (isn n A k27).e], sv [.i .i64 ((iw (isn n A k27)).a), .i .i64 ((iw (isn n A k27)).b)]]) rfl Try.call89 rfl) (fun w h => wdJoin_v (isn n A k27).d (isn n A k27).e (iw (isn n A k27)).a (iw (isn n A k27)).b hT.b1 _) rfl) (by kernel_rfl) rfl) (by kernel_rfl) rfl) ?_
      refine GSteps.cons (late_step (late_step (gm_call (v := nv 7 [wr (dv n ((isn n A k27).d * (iw (isn n A k27)).a + (isn n A k27).e * (iw (isn n A k27)).b))]) rfl (fun _ => rfl) (fun _ => rfl) (fun γ w => ex_call (vs := [nv 7 [wr ((isn n A k27).d * (iw (isn n A k27)).a + (isn n A k27).e * (iw (isn n A k27)).b)]]) rfl Try.call91 rfl) (fun w h => wdDiv_v n hn ((isn n A k27).d * (iw (isn n A k27)).a + (isn n A k27).e * (iw (isn n A k27)).b) hv1.1 hv1.2 _) rfl) (by kernel_rfl) rfl) (by kernel_rfl) rfl) ?_
      refine GSteps.cons (late_step (late_step (gm_val (v := nv 7 [wr (isn n A k27).d]) rfl (fun _ => rfl) (fun _ => rfl) (fun γ w h => ex_loadsn (K := 7) 0 1 (m := [wr (isn n A k27).d]) flWd rfl rfl (A93.keep h.out) rfl rfl) rfl) (by kernel_rfl) rfl) (by kernel_rfl) rfl) ?_
      refine GSteps.cons (late_step (late_chain [10] (gm_val (v := nv 7 [wr (isn n A k27).e]) rfl (fun _ => rfl) (fun _ => rfl) (fun γ w h => ex_loadsn (K := 7) 0 1 (m := [wr (isn n A k27).e]) flWd rfl rfl (A94.keep h.out) rfl rfl) rfl) (by kernel_rfl) rfl) (by kernel_rfl) rfl) ?_
      refine GSteps.cons (late_step (late_chain [10, 9] (gm_valg (fun γ => pq (γ36 0) 2) rfl (fun _ => rfl) (fun _ => rfl) (fun γ w h => ex_field faFa_1 rfl) rfl) (by kernel_rfl) rfl) (by kernel_rfl) rfl) ?_
      refine GSteps.cons (late_step (late_chain [10] (gm_val (v := sv [.i .i64 ((iw (isn n A k27)).c), .i .i64 ((iw (isn n A k27)).d)]) rfl (fun _ => rfl) (fun _ => rfl) (fun γ w h => ex_loads 2 2 (m := [.i .i64 ((iw (isn n A k27)).c), .i .i64 ((iw (isn n A k27)).d)]) flPr rfl rfl (A95.keep h.out) rfl rfl) rfl) (by kernel_rfl) rfl) (by kernel_rfl) rfl) ?_
      refine GSteps.cons (late_step (late_step (gm_call (v := nv 7 [wr ((isn n A k27).d * (iw (isn n A k27)).c + (isn n A k27).e * (iw (isn n A k27)).d)]) rfl (fun _ => rfl) (fun _ => rfl) (fun γ w => ex_call (vs := [nv 7 [wr (isn n A k27).d], nv 7 [wr (isn n A k27).e], sv [.i .i64 ((iw (isn n A k27)).c), .i .i64 ((iw (isn n A k27)).d)]]) rfl Try.call89 rfl) (fun w h => wdJoin_v (isn n A k27).d (isn n A k27).e (iw (isn n A k27)).c (iw (isn n A k27)).d hT.b2 _) rfl) (by kernel_rfl) rfl) (by kernel_rfl) rfl) ?_
      refine GSteps.cons (late_step (late_step (gm_call (v := nv 7 [wr (dv n ((isn n A k27).d * (iw (isn n A k27)).c + (isn n A k27).e * (iw (isn n A k27)).d))]) rfl (fun _ => rfl) (fun _ => rfl) (fun γ w => ex_call (vs := [nv 7 [wr ((isn n A k27).d * (iw (isn n A k27)).c + (isn n A k27).e * (iw (isn n A k27)).d)]]) rfl Try.call91 rfl) (fun w h => wdDiv_v n hn ((isn n A k27).d * (iw (isn n A k27)).c + (isn n A k27).e * (iw (isn n A k27)).d) hv2.1 hv2.2 _) rfl) (by kernel_rfl) rfl) (by kernel_rfl) rfl) ?_
      refine GSteps.cons (late_step (late_store rfl (fun _ => rfl) (fun γ w h => ex_stores 0 1 (l := [.n 7 (wr (isn n A k27).d)]) (m := [.n 7 (wr (dv n ((isn n A k27).d * (iw (isn n A k27)).a + (isn n A k27).e * (iw (isn n A k27)).b)))]) flWd.2 rfl rfl rfl (nv_cells 7 [wr (dv n ((isn n A k27).d * (iw (isn n A k27)).a + (isn n A k27).e * (iw (isn n A k27)).b))]) (A93.keep h.out) rfl rfl) rfl) (by kernel_rfl) rfl) ?_
      refine GSteps.cons (late_store2 rfl (fun _ => rfl) (fun γ w w1 h hs => ex_stores 0 1 (l := [.n 7 (wr (isn n A k27).e)]) (m := [.n 7 (wr (dv n ((isn n A k27).d * (iw (isn n A k27)).c + (isn n A k27).e * (iw (isn n A k27)).d)))]) flWd.2 rfl rfl rfl (nv_cells 7 [wr (dv n ((isn n A k27).d * (iw (isn n A k27)).c + (isn n A k27).e * (iw (isn n A k27)).d))]) (hs.other (Ne.symm (hn11 0 1 rfl rfl (by decide))) (A94.keep h.out)) rfl rfl) rfl rfl rfl (by kernel_rfl)) ?_
      exact GSteps.nil
    intro _ w97 w97_ w97__ hb97 _ _ hs97 hs97_
    have A98 := A89.keep hb97.out
    have A99 := A90.keep hb97.out
    have A100 := A91.keep hb97.out
    have A101 := A92.keep hb97.out
    have A102 := A93.keep hb97.out
    have A103 := A94.keep hb97.out
    have HB105 := below_then HB96 hb97.out
    have A106 := hs97.other (nelt (ltle A6.lt le16)) A98
    have A107 := hs97.other (nelt (ltle A7.lt le16)) A99
    have A108 := hs97.other (nelt (ltle A8.lt le16)) A100
    have A109 := hs97.other (nelt (ltle A9.lt le16)) A101
    have A110 := hs97.here 0 1 (l' := [.n 7 (wr (dv n ((isn n A k27).d * (iw (isn n A k27)).a + (isn n A k27).e * (iw (isn n A k27)).b)))]) A102 rfl rfl rfl
    have A111 := hs97.other (Ne.symm (hn11 0 1 rfl rfl (by decide))) A103
    have HB113 := hs97.below HB105 (Nat.le_trans HB10.size le16)
    have A114 := hs97_.other (nelt (ltle A6.lt le17)) A106
    have A115 := hs97_.other (nelt (ltle A7.lt le17)) A107
    have A116 := hs97_.other (nelt (ltle A8.lt le17)) A108
    have A117 := hs97_.other (nelt (ltle A9.lt le17)) A109
    have A118 := hs97_.other (hn11 0 1 rfl rfl (by decide)) A110
    have A119 := hs97_.here 0 1 (l' := [.n 7 (wr (dv n ((isn n A k27).d * (iw (isn n A k27)).c + (isn n A k27).e * (iw (isn n A k27)).d)))]) A111 rfl rfl rfl
    have HB121 := hs97_.below HB113 (Nat.le_trans HB10.size le17)
    refine bk_n ?_
    refine th_r ?_
    exact hK27.out _ _ ⟨_, _, _, _, _, _, _, _, _, _, _, _, _, _, _, _, _, _, _, _, _, _, _, _, _, _, _, _, _, _, _, _, _, _, _, _, _, (by rw [isn_t]), A114, A115, (by rw [isn_f]; exact A116), (by rw [isn_g]; exact A117), (by rw [isn_d]; exact A118), (by rw [isn_e]; exact A119), HB121⟩
  · rintro _ w122 ⟨i122_8, i122_15, i122_16, i122_17, i122_18, i122_19, i122_20, i122_21, i122_22, i122_23, i122_24, i122_25, i122_26, i122_27, i122_28, i122_29, i122_30, i122_31, i122_32, i122_33, i122_34, i122_35, i122_36, i122_37, i122_38, i122_39, i122_40, i122_41, i122_42, i122_43, i122_44, i122_45, i122_46, i122_47, i122_48, i122_49, i122_50, rfl, A122_0, A122_1, A122_2, A122_3, A122_4, A122_5, HB122⟩ K122
    refine wp_seq ?_
    refine rh0 HB122 [15, 16, 17] [nv 7 [wr (isn n A N).g], nv 7 [wr 0], .bool false] ?_ ?_
    · refine stpv (fun γ w h => ex_loadsn (K := 7) 0 1 (m := [wr (isn n A N).g]) flWd rfl rfl (A122_3.keep h.out) rfl rfl) ?_
      refine stpx (fun _ _ => ex_zeroQ) ?_
      exact stpx (fun _ _ => ex_neqn (K := 7) (l := [wr (isn n A N).g]) (m := [wr 0]) eqWd rfl rfl rfl rfl rfl (wr_all _) (wr_all _) rfl false (neq_end h3)) .nil
    intro w123 hb123 HB130
    have A125 := A122_1.keep hb123.out
    have A126 := A122_2.keep hb123.out
    have A128 := A122_4.keep hb123.out
    refine wp_cond_false rfl ?_
    refine wp_exit (th_e (th_e (bk_e ?_)))
    refine th_r ?_
    refine wp_seq ?_
    by_cases hf : (isn n A N).f < 0
    · refine rh0 HB130 [51, 52] [nv 7 [wr (isn n A N).f], .bool true] ?_ ?_
      · refine stpv (fun γ w h => ex_loadsn (K := 7) 0 1 (m := [wr (isn n A N).f]) flWd rfl rfl (A126.keep h.out) rfl rfl) ?_
        exact stpk Try.call92 (fun w h => wdNeg_v (isn n A N).f hf1.1 hf1.2 true (decide_eq_true hf).symm _) .nil
      intro w131 hb131 HB138
      have A133 := A125.keep hb131.out
      have A136 := A128.keep hb131.out
      refine wp_cond_true rfl ?_
      refine region_s 2 ((γ11 0)) 0 (segs [.n 7 (wr (-(isn n A N).d))]) [53, 54] [nv 7 [wr (isn n A N).d], nv 7 [wr (-(isn n A N).d)]] ?_ ?_
      · refine latv (fun γ w h => ex_loadsn (K := 7) 0 1 (m := [wr (isn n A N).d]) flWd rfl rfl (A136.keep h.out) rfl rfl) ?_
        refine latk Try.call93 (fun w h => wdTurn_v (isn n A N).d _) ?_
        exact lato 0 1 flWd.2 (nv_cells 7 [wr (-(isn n A N).d)]) A136 .nil
      intro w139 w139_ hb139 hs139
      have A141 := A133.keep hb139.out
      have A144 := A136.keep hb139.out
      have HB146 := below_then HB138 hb139.out
      have A148 := hs139.other (nelt (ltle A7.lt le16)) A141
      have A151 := hs139.here 0 1 (l' := [.n 7 (wr (-(isn n A N).d))]) A144 rfl rfl rfl
      have HB153 := hs139.below HB146 (Nat.le_trans HB10.size le16)
      refine th_r ?_
      refine wp_seq ?_
      by_cases hd : (-(isn n A N).d) < 0
      · have hv := inv_end h1 hA h3 h4 hvp (r := ((-(isn n A N).d) + (pN : Int) * 1)) (by rw [if_pos hf, if_pos hd, Int.mul_one])
        refine rh0 HB153 [55, 56] [nv 7 [wr (-(isn n A N).d)], .bool true] ?_ ?_
        · refine stpv (fun γ w h => ex_loadsn (K := 7) 0 1 (m := [wr (-(isn n A N).d)]) flWd rfl rfl (A151.keep h.out) rfl rfl) ?_
          exact stpk Try.call92 (fun w h => wdNeg_v (-(isn n A N).d) hd2.1 hd2.2 true (decide_eq_true hd).symm _) .nil
        intro w154 hb154 HB161
        have A156 := A148.keep hb154.out
        have A159 := A151.keep hb154.out
        refine wp_cond_true rfl ?_
        refine region_s 4 ((γ11 0)) 0 (segs [.n 7 (wr ((-(isn n A N).d) + (pN : Int) * 1))]) [57, 58, 59, 60] [nv 7 [wr (-(isn n A N).d)], nv 6 [pN], nv 7 [wr (pN : Int)], nv 7 [wr ((-(isn n A N).d) + (pN : Int) * 1)]] ?_ ?_
        · refine latv (fun γ w h => ex_loadsn (K := 7) 0 1 (m := [wr (-(isn n A N).d)]) flWd rfl rfl (A159.keep h.out) rfl rfl) ?_
          refine latk Try.call31 (fun w h => fpmodulus_i _) ?_
          refine latk Try.call87 (fun w h => wdWiden_i pN fpM_ltI _) ?_
          refine latc (nv 7 [wr ((-(isn n A N).d) + (pN : Int) * 1)]) (fun γ w => ex_call (vs := [nv 7 [wr (-(isn n A N).d)], nv 7 [wr (pN : Int)], .int .i64 1]) rfl Try.call94 rfl) (fun w h => wdPlus_v (-(isn n A N).d) (pN : Int) 1 (by decide) _) ?_
          exact lato 0 1 flWd.2 (nv_cells 7 [wr ((-(isn n A N).d) + (pN : Int) * 1)]) A159 .nil
        intro w162 w162_ hb162 hs162
        have A164 := A156.keep hb162.out
        have A167 := A159.keep hb162.out
        have HB169 := below_then HB161 hb162.out
        have A171 := hs162.other (nelt (ltle A7.lt le16)) A164
        have A174 := hs162.here 0 1 (l' := [.n 7 (wr ((-(isn n A N).d) + (pN : Int) * 1))]) A167 rfl rfl rfl
        have HB176 := hs162.below HB169 (Nat.le_trans HB10.size le16)
        refine th_r ?_
        refine rhs HB176 le3 2 0 [.n 6 v] [61, 62] [.slice (some ⟨(γ11 0), 0, none⟩) 6 7, nv 6 [v]] ?_ ?_
        · refine latv (fun γ w h => ex_cutW rfl (fun _ => rfl)) ?_
          refine latk Try.call55 (fun w h => fpnumber_b (A174.keep h.out) hv hvB _) ?_
          exact lato 0 1 flFpI.2 (nv_cells 6 [v]) A171 .nil
        intro w177 w177_ hb177 hs177 HB191
        have A179 := A171.keep hb177.out
        have A186 := hs177.here 0 1 (l' := [.n 6 v]) A179 rfl rfl rfl
        exact wpr (ret1 Try.results71 (res_nv (K := 6) (l := [v]) rfl A186 flFpI rfl)) HB191
      · have hv := inv_end h1 hA h3 h4 hvp (r := (-(isn n A N).d)) (by rw [if_pos hf, if_neg hd, Int.add_zero])
        refine rh0 HB153 [55, 56] [nv 7 [wr (-(isn n A N).d)], .bool false] ?_ ?_
        · refine stpv (fun γ w h => ex_loadsn (K := 7) 0 1 (m := [wr (-(isn n A N).d)]) flWd rfl rfl (A151.keep h.out) rfl rfl) ?_
          exact stpk Try.call92 (fun w h => wdNeg_v (-(isn n A N).d) hd2.1 hd2.2 false (decide_eq_false hd).symm _) .nil
        intro w192 hb192 HB199
        have A194 := A148.keep hb192.out
        have A197 := A151.keep hb192.out
        refine wp_cond_false rfl ?_
        refine wp_skip ?_
        refine th_r ?_
        refine rhs HB199 le3 2 0 [.n 6 v] [61, 62] [.slice (some ⟨(γ11 0), 0, none⟩) 6 7, nv 6 [v]] ?_ ?_
        · refine latv (fun γ w h => ex_cutW rfl (fun _ => rfl)) ?_
          refine latk Try.call55 (fun w h => fpnumber_b (A197.keep h.out) hv hvB _) ?_
          exact lato 0 1 flFpI.2 (nv_cells 6 [v]) A194 .nil
        intro w200 w200_ hb200 hs200 HB214
        have A202 := A194.keep hb200.out
        have A209 := hs200.here 0 1 (l' := [.n 6 v]) A202 rfl rfl rfl
        exact wpr (ret1 Try.results71 (res_nv (K := 6) (l := [v]) rfl A209 flFpI rfl)) HB214
    · refine rh0 HB130 [51, 52] [nv 7 [wr (isn n A N).f], .bool false] ?_ ?_
      · refine stpv (fun γ w h => ex_loadsn (K := 7) 0 1 (m := [wr (isn n A N).f]) flWd rfl rfl (A126.keep h.out) rfl rfl) ?_
        exact stpk Try.call92 (fun w h => wdNeg_v (isn n A N).f hf1.1 hf1.2 false (decide_eq_false hf).symm _) .nil
      intro w215 hb215 HB222
      have A217 := A125.keep hb215.out
      have A220 := A128.keep hb215.out
      refine wp_cond_false rfl ?_
      refine wp_skip ?_
      refine th_r ?_
      refine wp_seq ?_
      by_cases hd : (isn n A N).d < 0
      · have hv := inv_end h1 hA h3 h4 hvp (r := ((isn n A N).d + (pN : Int) * 1)) (by rw [if_neg hf, if_pos hd, Int.mul_one])
        refine rh0 HB222 [55, 56] [nv 7 [wr (isn n A N).d], .bool true] ?_ ?_
        · refine stpv (fun γ w h => ex_loadsn (K := 7) 0 1 (m := [wr (isn n A N).d]) flWd rfl rfl (A220.keep h.out) rfl rfl) ?_
          exact stpk Try.call92 (fun w h => wdNeg_v (isn n A N).d hd1.1 hd1.2 true (decide_eq_true hd).symm _) .nil
        intro w223 hb223 HB230
        have A225 := A217.keep hb223.out
        have A228 := A220.keep hb223.out
        refine wp_cond_true rfl ?_
        refine region_s 4 ((γ11 0)) 0 (segs [.n 7 (wr ((isn n A N).d + (pN : Int) * 1))]) [57, 58, 59, 60] [nv 7 [wr (isn n A N).d], nv 6 [pN], nv 7 [wr (pN : Int)], nv 7 [wr ((isn n A N).d + (pN : Int) * 1)]] ?_ ?_
        · refine latv (fun γ w h => ex_loadsn (K := 7) 0 1 (m := [wr (isn n A N).d]) flWd rfl rfl (A228.keep h.out) rfl rfl) ?_
          refine latk Try.call31 (fun w h => fpmodulus_i _) ?_
          refine latk Try.call87 (fun w h => wdWiden_i pN fpM_ltI _) ?_
          refine latc (nv 7 [wr ((isn n A N).d + (pN : Int) * 1)]) (fun γ w => ex_call (vs := [nv 7 [wr (isn n A N).d], nv 7 [wr (pN : Int)], .int .i64 1]) rfl Try.call94 rfl) (fun w h => wdPlus_v (isn n A N).d (pN : Int) 1 (by decide) _) ?_
          exact lato 0 1 flWd.2 (nv_cells 7 [wr ((isn n A N).d + (pN : Int) * 1)]) A228 .nil
        intro w231 w231_ hb231 hs231
        have A233 := A225.keep hb231.out
        have A236 := A228.keep hb231.out
        have HB238 := below_then HB230 hb231.out
        have A240 := hs231.other (nelt (ltle A7.lt le16)) A233
        have A243 := hs231.here 0 1 (l' := [.n 7 (wr ((isn n A N).d + (pN : Int) * 1))]) A236 rfl rfl rfl
        have HB245 := hs231.below HB238 (Nat.le_trans HB10.size le16)
        refine th_r ?_
        refine rhs HB245 le3 2 0 [.n 6 v] [61, 62] [.slice (some ⟨(γ11 0), 0, none⟩) 6 7, nv 6 [v]] ?_ ?_
        · refine latv (fun γ w h => ex_cutW rfl (fun _ => rfl)) ?_
          refine latk Try.call55 (fun w h => fpnumber_b (A243.keep h.out) hv hvB _) ?_
          exact lato 0 1 flFpI.2 (nv_cells 6 [v]) A240 .nil
        intro w246 w246_ hb246 hs246 HB260
        have A248 := A240.keep hb246.out
        have A255 := hs246.here 0 1 (l' := [.n 6 v]) A248 rfl rfl rfl
        exact wpr (ret1 Try.results71 (res_nv (K := 6) (l := [v]) rfl A255 flFpI rfl)) HB260
      · have hv := inv_end h1 hA h3 h4 hvp (r := (isn n A N).d) (by rw [if_neg hf, if_neg hd, Int.add_zero])
        refine rh0 HB222 [55, 56] [nv 7 [wr (isn n A N).d], .bool false] ?_ ?_
        · refine stpv (fun γ w h => ex_loadsn (K := 7) 0 1 (m := [wr (isn n A N).d]) flWd rfl rfl (A220.keep h.out) rfl rfl) ?_
          exact stpk Try.call92 (fun w h => wdNeg_v (isn n A N).d hd1.1 hd1.2 false (decide_eq_false hd).symm _) .nil
        intro w261 hb261 HB268
        have A263 := A217.keep hb261.out
        have A266 := A220.keep hb261.out
        refine wp_cond_false rfl ?_
        refine wp_skip ?_
        refine th_r ?_
        refine rhs HB268 le3 2 0 [.n 6 v] [61, 62] [.slice (some ⟨(γ11 0), 0, none⟩) 6 7, nv 6 [v]] ?_ ?_
        · refine latv (fun γ w h => ex_cutW rfl (fun _ => rfl)) ?_
          refine latk Try.call55 (fun w h => fpnumber_b (A266.keep h.out) hv hvB _) ?_
          exact lato 0 1 flFpI.2 (nv_cells 6 [v]) A263 .nil
        intro w269 w269_ hb269 hs269 HB283
        have A271 := A263.keep hb269.out
        have A278 := hs269.here 0 1 (l' := [.n 6 v]) A271 rfl rfl rfl
        exact wpr (ret1 Try.results71 (res_nv (K := 6) (l := [v]) rfl A278 flFpI rfl)) HB283
theorem fpInv_i (n : Nat) (hn : NegOf (lb pN 0) n) (a x : Nat) (ha : a < fpB) (hx : x = a % pN) (hxp : x < pN) (v : Nat) (hv : v = x ^ (pN - 2) % pN) : CI 43 #[nv 6 [a]] (nv 6 [v]) := fun w => by
  go_enter Try.func43, Try.ntmps43
  refine rh2 (brf w) 26 0 [.n 6 a] 26 1 [.n 6 0] [1, 2] (fun γ => [pz (γ 0), pz (γ 1)]) ?_ ?_
  · refine stpb 0 (fun γ w h => ex_boxsn (K := 6) (l := [a]) rfl) ?_
    exact stpb 1 (fun γ w h => ex_allocsn (K := 6) (l := [0]) zFpI) .nil
  intro γ1 w1 hb1 A2 A3 _ le3 hn1 HB4
  refine rhs HB4 le3 3 0 [.n 6 v] [3, 4, 5] [nv 6 [a], nv 6 [x], nv 6 [v]] ?_ ?_
  · refine latl 0 1 flFpI A2 ?_
    refine latk Try.call52 (fun w h => fpClean_i a ha x hx _) ?_
    refine latk Try.call71 (fun w h => wdInverse_v n hn x hxp v hv _) ?_
    exact lato 0 1 flFpI.2 (nv_cells 6 [v]) A3 .nil
  intro w5 w5_ hb5 hs5 HB11
  have A7 := A3.keep hb5.out
  have A10 := hs5.here 0 1 (l' := [.n 6 v]) A7 rfl rfl rfl
  exact wpr (ret1 Try.results43 (res_nv (K := 6) (l := [v]) rfl A10 flFpI rfl)) HB11
theorem fpInv_v (a : Nat) (w : World) (ha : a < fpB) (v : Nat) (hv : v = a ^ (pN - 2) % pN) :
    Calls Try.prog 43 #[fpV a] w (Is (fpV v) w) := by
  rw [nv6I, nv6I]
  obtain ⟨n, hn⟩ := neg_there
  refine fpInv_i n hn a (a % pN) ha rfl (Nat.mod_lt _ (by have := pOne; omega)) v ?_ w
  rw [hv, ← Nat.pow_mod]
end Go.Proofs.Ytkkmekdhejhapaa

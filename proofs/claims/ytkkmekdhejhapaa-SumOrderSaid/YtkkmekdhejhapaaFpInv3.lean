/- What is proved here: contracts of the parts of fp's inverse: wide numbers of elements, two numbers joined by factors, quotients modulo p, sixty steps. -/
import Derived.Test.YtkkmekdhejhapaaFpInv2
namespace Go.Proofs.Ytkkmekdhejhapaa
open Go.RowKit
set_option maxRecDepth 20000
set_option maxHeartbeats 4000000
theorem row7_of {a : Nat} (h : a < fpB) : row 6 a ++ (row 7 0).drop 6 = row 7 a := by
  have h0 : lb a 6 = 0 := by rw [lb, Nat.div_eq_of_lt (by rw [← fpB_eq]; exact h)]
  have h1 : (row 7 0).drop 6 = [0] := rfl
  rw [h1]
  apply List.ext_getElem (by rw [List.length_append, length_row, length_row]; rfl)
  intro i h2 h3
  rw [length_row] at h3
  have e2 := lb_row (K := 7) (v := a) (i := i) h3
  rw [lm, List.getD_eq_getElem?_getD, List.getElem?_eq_getElem (by rw [length_row]; exact h3), Option.getD_some] at e2
  rw [e2]
  by_cases c : i < 6
  · have e1 := lb_row (K := 6) (v := a) (i := i) c
    rw [lm, List.getD_eq_getElem?_getD, List.getElem?_eq_getElem (by rw [length_row]; exact c), Option.getD_some] at e1
    rw [List.getElem_append_left (by rw [length_row]; exact c), e1]
  · obtain rfl : i = 6 := by omega
    rw [List.getElem_append_right (by rw [length_row]; omega), h0]
    simp [length_row]
theorem run_copy_w (w : World) (t ts ti : TypeId) (g b v : Nat) (hg : Arr t w g (row 7 0)) (hb : Arr ts w b (row 6 v)) (hv : v < fpB) :
    ∃ w', (Builtin.copy_ #[64, 64] ti #[.slice (some ⟨g, 0, none⟩) 7 7, .slice (some ⟨b, 0, none⟩) 6 6]).run Try.prog w = .ok (goInt 6) w' ∧ Arr t w' g (row 7 v) ∧ Below g w w' := by
  have hcl : (cellsOf (row 6 v)).length = 6 := by simp [cellsOf, length_row]
  have hrun := run_copy_row (P := Try.prog) w 64 64 ti 24 g 0 7 7 ⟨b, 0, none⟩ 6 6 (cellsOf (row 7 0)).toArray t (cellsOf (row 6 v)) Try.underlying64 Try.sizeU hg (by rw [hcl]; rfl) (by
    intro j x hj
    have hjn : j < 6 := by
      have := (List.getElem?_eq_some_iff.1 hj).1
      rwa [hcl] at this
    rw [cellsOf_get (by rw [length_row]; exact hjn), lb_row hjn] at hj
    cases hj
    rw [Go.WideShapes.add_plain, Nat.zero_add]
    exact hb.rc j hjn) (by simp [cellsOf, length_row]) (by
    intro x hx
    simp only [cellsOf, List.mem_map] at hx
    obtain ⟨y, _, rfl⟩ := hx
    rfl)
  have e : (cellsOf (row 7 0)).toArray.toList.take 0 ++ cellsOf (row 6 v) ++ (cellsOf (row 7 0)).toArray.toList.drop (0 + (cellsOf (row 6 v)).length) = cellsOf (row 7 v) := by
    rw [List.take_zero, List.nil_append, Nat.zero_add, hcl, ← row7_of hv]
    simp [cellsOf, List.map_drop]
  rw [e, hcl] at hrun
  refine ⟨_, hrun, ?_, ?_⟩
  · unfold Arr
    rw [setRow_heap w g _ _ _ _ hg]
  · refine ⟨rfl, rfl, rfl, by simp, fun k hk => ?_⟩
    exact setRow_other w g k _ (by omega)
theorem wd_below {B : Nat} {w0 w : World} (hb : Below B w0 w) {b : Nat} (hg : B ≤ b) (u0 u1 u2 u3 u4 u5 u6 : Value) : Below B w0 (((((((w.setCell ⟨b, 0, none⟩ u0).setCell ⟨b, 1, none⟩ u1).setCell ⟨b, 2, none⟩ u2).setCell ⟨b, 3, none⟩ u3).setCell ⟨b, 4, none⟩ u4).setCell ⟨b, 5, none⟩ u5).setCell ⟨b, 6, none⟩ u6) :=
  (fp_below hb hg _ _ _ _ _ _).setCell (p := ⟨b, 6, none⟩) hg _
theorem wd_zero (t : TypeId) (w : World) : Arr t (w.alloc (.cells #[.int .u64 0, .int .u64 0, .int .u64 0, .int .u64 0, .int .u64 0, .int .u64 0, .int .u64 0] t)) w.heap.size (row 7 0) := by
  unfold Arr
  exact heap_alloc_new w _
theorem wd_lay (w : World) (a : Nat) : ∃ w', ((w.alloc (.cells #[.int .u64 ((lb a 0 : Nat) : Int), .int .u64 ((lb a 1 : Nat) : Int), .int .u64 ((lb a 2 : Nat) : Int), .int .u64 ((lb a 3 : Nat) : Int), .int .u64 ((lb a 4 : Nat) : Int), .int .u64 ((lb a 5 : Nat) : Int)] 26)).alloc (.cells #[.int .u64 0, .int .u64 0, .int .u64 0, .int .u64 0, .int .u64 0, .int .u64 0, .int .u64 0] 114)).alloc (.cells #[.int .u64 0, .int .u64 0, .int .u64 0, .int .u64 0, .int .u64 0, .int .u64 0, .int .u64 0] 114) = w' ∧ Arr 26 w' w.heap.size (row 6 a) ∧ Arr 114 w' (w.heap.size + 1) (row 7 0) ∧ Arr 114 w' (w.heap.size + 1 + 1) (row 7 0) ∧ Below w.heap.size w w' := by
  have a0 := (fp_new 26 w a).alloc (.cells #[.int .u64 0, .int .u64 0, .int .u64 0, .int .u64 0, .int .u64 0, .int .u64 0, .int .u64 0] 114)
  have a1 := (wd_zero 114 (w.alloc (.cells #[.int .u64 ((lb a 0 : Nat) : Int), .int .u64 ((lb a 1 : Nat) : Int), .int .u64 ((lb a 2 : Nat) : Int), .int .u64 ((lb a 3 : Nat) : Int), .int .u64 ((lb a 4 : Nat) : Int), .int .u64 ((lb a 5 : Nat) : Int)] 26))).alloc (.cells #[.int .u64 0, .int .u64 0, .int .u64 0, .int .u64 0, .int .u64 0, .int .u64 0, .int .u64 0] 114)
  have a2 := wd_zero 114 ((w.alloc (.cells #[.int .u64 ((lb a 0 : Nat) : Int), .int .u64 ((lb a 1 : Nat) : Int), .int .u64 ((lb a 2 : Nat) : Int), .int .u64 ((lb a 3 : Nat) : Int), .int .u64 ((lb a 4 : Nat) : Int), .int .u64 ((lb a 5 : Nat) : Int)] 26)).alloc (.cells #[.int .u64 0, .int .u64 0, .int .u64 0, .int .u64 0, .int .u64 0, .int .u64 0, .int .u64 0] 114))
  have a0 := a0.alloc (.cells #[.int .u64 0, .int .u64 0, .int .u64 0, .int .u64 0, .int .u64 0, .int .u64 0, .int .u64 0] 114)
  simp only [World.size_alloc] at a1 a2
  exact ⟨_, rfl, a0, a1, a2, (((brf w).alloc (by simp <;> omega) _).alloc (by simp <;> omega) _).alloc (by simp <;> omega) _⟩
theorem wdWiden_v (a : Nat) (ha : a < fpB) (w : World) : Calls Try.prog 87 #[nv 6 [a]] w (Is (nv 7 [a]) w) := by
  rw [← nv6I]
  obtain ⟨w3, hw3, a1, a2, a3, hb0⟩ := wd_lay w a
  subst hw3
  obtain ⟨w4, hc, ho4, hb4⟩ := run_copy_w _ 114 26 3 (w.heap.size + 1 + 1) w.heap.size a a3.drew a1.drew ha
  have HC := Lib.hid hc
  have c0 := ho4.rc 0 (by decide); have c1 := ho4.rc 1 (by decide); have c2 := ho4.rc 2 (by decide); have c3 := ho4.rc 3 (by decide); have c4 := ho4.rc 4 (by decide); have c5 := ho4.rc 5 (by decide); have c6 := ho4.rc 6 (by decide)
  have a4 := a2.drew.below (by omega) hb4
  have d0 := a4.rc 0 (by decide); have d1 := a4.rc 1 (by decide); have d2 := a4.rc 2 (by decide); have d3 := a4.rc 3 (by decide); have d4 := a4.rc 4 (by decide); have d5 := a4.rc 5 (by decide); have d6 := a4.rc 6 (by decide)
  have f0 := a4.frozen 0; have f1 := a4.frozen 1; have f2 := a4.frozen 2; have f3 := a4.frozen 3; have f4 := a4.frozen 4; have f5 := a4.frozen 5; have f6 := a4.frozen 6
  have HB3 := Lib.hid (hb0.drew.trans (hb4.mono (by omega)))
  clear ha a1 a2 a3 hb0 hc ho4 hb4 a4
  go_enter Try.func87, Try.ntmps87
  go_wp2_with fail
  go_region_with (simp only [HC.out])
  all_goals
    go_wp2
    rw [nv7]
    refine bodyPost_ret (by simp [results, Try.results87, go_sem, d0, d1, d2, d3, d4, d5, d6]) rfl ⟨rfl, ?_⟩
    exact wd_below HB3.out (by omega) _ _ _ _ _ _ _
theorem fpM_ltI : pN < fpB := fpM_lt
theorem fpmodulus_i (w : World) : Calls Try.prog 31 #[] w (Is (nv 6 [pN]) w) := by
  rw [← nv6I]
  exact fpmodulus_v w
theorem fpB_wB {a : Nat} (h : a < fpB) : a < wB := by
  have e : fpB = qB := by rw [fpB_eq]; exact (qB_eq rfl).symm
  rw [e] at h
  rw [wB_q]
  generalize qB = R at *
  omega
theorem wdWiden_i (a : Nat) (ha : a < fpB) (w : World) : Calls Try.prog 87 #[nv 6 [a]] w (Is (nv 7 [wr (a : Int)]) w) := by
  rw [wr_nat (fpB_wB ha)]
  exact wdWiden_v a ha w
theorem wdPlus_v (x y k : Int) (hk : k.natAbs < 2 ^ 63) : CI 94 #[nv 7 [wr x], nv 7 [wr y], .int .i64 k] (nv 7 [wr (x + y * k)]) := fun w => by
  by_cases h : 0 ≤ k
  · obtain ⟨m, rfl⟩ := Int.eq_ofNat_of_zero_le h
    exact wdPlus_p x y m (by omega) w
  · obtain ⟨m, hm⟩ := Int.eq_ofNat_of_zero_le (show 0 ≤ -k by omega)
    obtain rfl : k = -(m : Int) := by omega
    exact wdPlus_m x y m (by omega) (by omega) w
theorem neg_is {m n : Nat} (hn : NegOf m n) (w : World) (hm : m < 2 ^ 64 := by exact lb_lt _ _) : Calls Try.prog 78 #[.int .u64 (m : Int)] w (Is (.int .u64 (n : Int)) w) :=
  (neg_nat m w hm).mono (by
    rintro e w' ⟨k, rfl, rfl, hk⟩
    rw [hk.unique hn]
    exact ⟨rfl, Below.refl _ _⟩)
theorem pN_hB : 1152921504606846976 * pN < hB := by
  have h1 : pN < qB := by
    obtain ⟨a, h, e⟩ := qB_ex
    obtain ⟨k, hk⟩ : ∃ k, k = 189 + 192 := ⟨_, rfl⟩
    rw [h]
    exact Nat.lt_of_lt_of_le (pN_big hk) (Nat.pow_le_pow_right (by decide) (by omega))
  rw [hB_q]
  generalize qB = R at *
  omega
theorem big_in {x : Int} (h1 : -1152921504606846976 * (pN : Int) ≤ x) (h2 : x ≤ 1152921504606846976 * (pN : Int)) : -(hB : Int) ≤ x ∧ x < (hB : Int) := by
  have := pN_hB
  omega
theorem kOf_neg {n : Nat} {x : Int} (hc : x < 0) : IntKind.i64.wrap (((lb (wr x) 0 : Nat) : Int) * (n : Int) % 18446744073709551616 % 1152921504606846976) = kkOf n x := by
  rw [kkOf, if_pos hc, wrapI64 (by omega) (by omega), Int.sub_zero]
theorem kOf_pos {n : Nat} {x : Int} (hc : ¬ x < 0) : IntKind.i64.wrap (((lb (wr x) 0 : Nat) : Int) * (n : Int) % 18446744073709551616 % 1152921504606846976) = kkOf n x + 1152921504606846976 := by
  rw [kkOf, if_neg hc, wrapI64 (by omega) (by omega), Int.sub_add_cancel]
theorem kOf_sub {k : Int} (h : -1152921504606846976 ≤ k ∧ k < 1152921504606846976) : IntKind.i64.wrap (k + 1152921504606846976 - 1152921504606846976) = k := by
  rw [Int.add_sub_cancel]
  exact wrapI64 (by omega) (by omega)
def ws0 (t f g : Int) : WS := ⟨t, f, g, 1, 0, 0, 1⟩
theorem wcase (s : WS) : (s.g % 2 = 1 ∧ 0 < s.t) ∨ (s.g % 2 = 1 ∧ ¬ 0 < s.t) ∨ ¬ s.g % 2 = 1 := by omega
theorem wsn_succ (k : Nat) (s : WS) : wsn (k + 1) s = wstep (wsn k s) := rfl
theorem wstep_swap {s : WS} (h : s.g % 2 = 1 ∧ 0 < s.t) : wstep s = ⟨-s.t + 1, s.g, ((-s.f) % 18446744073709551616 + s.g) % 18446744073709551616 / 2, 2 * s.c, 2 * s.d, -s.a + s.c, -s.b + s.d⟩ := if_pos h
theorem wstep_stay {s : WS} (h : s.g % 2 = 1 ∧ ¬ 0 < s.t) : wstep s = ⟨s.t + 1, s.f, (s.g + s.f) % 18446744073709551616 / 2, 2 * s.a, 2 * s.b, s.c + s.a, s.d + s.b⟩ := (if_neg (fun q => h.2 q.2)).trans (if_pos h.1)
theorem wstep_even {s : WS} (h : ¬ s.g % 2 = 1) : wstep s = ⟨s.t + 1, s.f, s.g / 2, 2 * s.a, 2 * s.b, s.c, s.d⟩ := (if_neg (fun q => h q.1)).trans (if_neg h)
theorem wdJoin_0 (x y a b : Int) (ha : a.natAbs < 2 ^ 63) (hb : b.natAbs < 2 ^ 63) : CI 89 #[nv 7 [wr x], nv 7 [wr y], sv [.i .i64 a, .i .i64 b]] (nv 7 [wr ((0 + x * a) + y * b)]) := fun w => by
  go_enter Try.func89, Try.ntmps89
  refine rhc (brf w) [bs 114 0 [.n 7 (wr x)], bs 114 1 [.n 7 (wr y)], bs (116) 2 [.i .i64 a, .i .i64 b], bs 114 3 [.n 7 0]] [3, 4, 5, 6] (fun γ => [pz (γ 0), pz (γ 1), pz (γ 2), pz (γ 3)]) ?_ ?_
  · refine stpb 0 (fun γ w h => ex_boxsn (K := 7) (l := [wr x]) rfl) ?_
    refine stpb 1 (fun γ w h => ex_boxsn (K := 7) (l := [wr y]) rfl) ?_
    refine stpb 2 (fun γ w h => ex_boxs (l := [.i .i64 a, .i .i64 b]) rfl) ?_
    exact stpb 3 (fun γ w h => ex_allocsn (K := 7) (l := [0]) zWd) .nil
  intro γ1 w1 hb1 hB1 hn1 HB6
  have A2 : SB 114 w1 (γ1 0) [.n 7 (wr x)] := (hB1 0 rfl).2
  have A3 : SB 114 w1 (γ1 1) [.n 7 (wr y)] := (hB1 1 rfl).2
  have A4 : SB 116 w1 (γ1 2) [.i .i64 a, .i .i64 b] := (hB1 2 rfl).2
  have A5 : SB 114 w1 (γ1 3) [.n 7 0] := (hB1 3 rfl).2
  have le5 := (hB1 3 rfl).1
  refine rhs HB6 le5 9 0 [.n 7 (wr ((0 + x * a) + y * b))] [7, 8, 9, 10, 11, 12, 13, 14, 15] [nv 7 [wr 0], nv 7 [wr x], pz (γ1 2), .int .i64 a, nv 7 [wr (0 + x * a)], nv 7 [wr y], pq (γ1 2) 1, .int .i64 b, nv 7 [wr ((0 + x * a) + y * b)]] ?_ ?_
  · refine latv (fun γ w h => ex_zeroQ) ?_
    refine latv (fun γ w h => ex_loadsn (K := 7) 0 1 (m := [wr x]) flWd rfl rfl (A2.keep h.out) rfl rfl) ?_
    refine latv (fun γ w h => ex_at (i := 0) (g := (γ1 2)) Try.underlying116 Try.sizeOf2 rfl rfl (by decide)) ?_
    refine latv (fun γ w h => ex_load1 0 (s := .i .i64 a) (v := .int .i64 a) sgI64 rfl (A4.keep h.out) rfl rfl rfl) ?_
    refine latk Try.call94 (fun w h => wdPlus_v 0 x a ha _) ?_
    refine latv (fun γ w h => ex_loadsn (K := 7) 0 1 (m := [wr y]) flWd rfl rfl (A3.keep h.out) rfl rfl) ?_
    refine latv (fun γ w h => ex_at (i := 1) (g := (γ1 2)) Try.underlying116 Try.sizeOf2 rfl rfl (by decide)) ?_
    refine latv (fun γ w h => ex_load1 1 (s := .i .i64 b) (v := .int .i64 b) sgI64 rfl (A4.keep h.out) rfl rfl rfl) ?_
    refine latk Try.call94 (fun w h => wdPlus_v (0 + x * a) y b hb _) ?_
    exact lato 0 1 flWd.2 (nv_cells 7 [wr ((0 + x * a) + y * b)]) A5 .nil
  intro w7 w7_ hb7 hs7 HB17
  have A11 := A5.keep hb7.out
  have A16 := hs7.here 0 1 (l' := [.n 7 (wr ((0 + x * a) + y * b))]) A11 rfl rfl rfl
  exact wpr (ret1 Try.results89 (res_nv (K := 7) (l := [wr ((0 + x * a) + y * b)]) rfl A16 flWd rfl)) HB17
theorem wdJoin_v (x y a b : Int) (h : a.natAbs + b.natAbs ≤ 2 ^ 60) : CI 89 #[nv 7 [wr x], nv 7 [wr y], sv [.i .i64 a, .i .i64 b]] (nv 7 [wr (x * a + y * b)]) := fun w => by
  have := wdJoin_0 x y a b (by omega) (by omega) w
  rwa [Int.zero_add] at this
theorem wdDiv_v (n : Nat) (hn : NegOf (lb pN 0) n) (x : Int) (h1 : -1152921504606846976 * (pN : Int) ≤ x) (h2 : x ≤ 1152921504606846976 * (pN : Int)) : CI 91 #[nv 7 [wr x]] (nv 7 [wr (dv n x)]) := fun w => by
  obtain ⟨hd, hd1, hd2, hk0, hk1⟩ := dv_ok hn x h1 h2
  have hk : -1152921504606846976 ≤ kkOf n x ∧ kkOf n x < 1152921504606846976 := ⟨hk0, hk1⟩
  have hk2 : (kkOf n x).natAbs < 2 ^ 63 := by omega
  have hx := big_in h1 h2
  have hy : -(hB : Int) ≤ x + (pN : Int) * kkOf n x ∧ x + (pN : Int) * kkOf n x < (hB : Int) := big_in (by omega) (by omega)
  go_enter Try.func91, Try.ntmps91
  refine rh2 (brf w) 114 0 [.n 7 (wr x)] 114 1 [.n 7 0] [1, 2] (fun γ => [pz (γ 0), pz (γ 1)]) ?_ ?_
  · refine stpb 0 (fun γ w h => ex_boxsn (K := 7) (l := [wr x]) rfl) ?_
    exact stpb 1 (fun γ w h => ex_allocsn (K := 7) (l := [0]) zWd) .nil
  intro γ1 w1 hb1 A2 A3 _ le3 hn1 HB4
  refine rhc HB4 [(26, 1, 2, [.n 6 0], [.n 6 pN])] [5, 3] (fun γ => [nv 6 [pN], pz (γ 0)]) ?_ ?_
  · refine stpk Try.call31 (fun w h => fpmodulus_i _) ?_
    refine stpn 0 (fun γ w => ex_allocsn (K := 6) (l := [0]) zFpI) ?_
    exact stpo 0 0 1 flFpI.2 (nv_cells 6 [pN]) .nil
  intro γ5 w5 hb5 hB5 _ HB9
  have A6 := A2.keep hb5.out
  have A7 := A3.keep hb5.out
  have A8 : SB 26 w5 (γ5 0) [.n 6 pN] := (hB5 0 rfl).2
  by_cases hc : x < 0
  · refine rh0 HB9 [6, 7, 8, 9, 10, 11, 12, 13, 4] [pz (γ1 0), .int .u64 ((lb (wr x) 0 : Nat) : Int), pz (γ5 0), .int .u64 ((lb pN 0 : Nat) : Int), .int .u64 (n : Int), .int .u64 (((lb (wr x) 0 : Nat) : Int) * (n : Int) % 18446744073709551616), .int .u64 (((lb (wr x) 0 : Nat) : Int) * (n : Int) % 18446744073709551616 % 1152921504606846976), .int .i64 (kkOf n x), .int .i64 (kkOf n x)] ?_ ?_
    · refine stpx (fun _ _ => ex_at (i := 0) (g := (γ1 0)) Try.underlying114 Try.sizeOf24 rfl rfl (by decide)) ?_
      refine stpv (fun γ w h => ex_ldl (v := wr x) (o := 0) (A6.keep h.out) (by decide) rfl) ?_
      refine stpx (fun _ _ => ex_at (i := 0) (g := (γ5 0)) Try.underlying26 Try.sizeOf24 rfl rfl (by decide)) ?_
      refine stpv (fun γ w h => ex_ldl (v := pN) (o := 0) (A8.keep h.out) (by decide) rfl) ?_
      refine stpk Try.call78 (fun w h => neg_is hn _) ?_
      refine stpx (fun _ _ => ex_imul rfl rfl ((((lb (wr x) 0 : Nat) : Int) * (n : Int) % 18446744073709551616)) (IntKind.wrap_u64 _)) ?_
      refine stpx (fun _ _ => ex_iremu rfl rfl (by decide) (Int.emod_nonneg _ (by decide))) ?_
      refine stpx (fun _ _ => ex_cvUI rfl ((kkOf n x)) (kOf_neg hc)) ?_
      exact stpa .nil
    intro w10 hb10 HB14
    have A11 := A6.keep hb10.out
    have A12 := A7.keep hb10.out
    have A13 := A8.keep hb10.out
    refine wp_seq ?_
    refine rh0 HB14 [14, 15, 16] [nv 7 [wr x], .bool true, .bool false] ?_ ?_
    · refine stpv (fun γ w h => ex_loadsn (K := 7) 0 1 (m := [wr x]) flWd rfl rfl (A11.keep h.out) rfl rfl) ?_
      refine stpk Try.call92 (fun w h => wdNeg_v x hx.1 hx.2 true (decide_eq_true hc).symm _) ?_
      exact stpx (fun _ _ => ex_not (r := true) rfl) .nil
    intro w15 hb15 HB19
    have A16 := A11.keep hb15.out
    have A17 := A12.keep hb15.out
    have A18 := A13.keep hb15.out
    refine wp_cond_false rfl ?_
    refine wp_skip ?_
    refine th_r ?_
    refine rhs HB19 le3 6 0 [.n 7 (wr ((x + (pN : Int) * (kkOf n x)) / 2 ^ 60))] [19, 20, 21, 22, 23, 24] [nv 7 [wr x], nv 6 [pN], nv 7 [wr (pN : Int)], .int .i64 (kkOf n x), nv 7 [wr (x + (pN : Int) * (kkOf n x))], nv 7 [wr ((x + (pN : Int) * (kkOf n x)) / 2 ^ 60)]] ?_ ?_
    · refine latv (fun γ w h => ex_loadsn (K := 7) 0 1 (m := [wr x]) flWd rfl rfl (A16.keep h.out) rfl rfl) ?_
      refine latl 0 1 flFpI A18 ?_
      refine latk Try.call87 (fun w h => wdWiden_i pN fpM_ltI _) ?_
      refine latm ?_
      refine latk Try.call94 (fun w h => wdPlus_v x (pN : Int) (kkOf n x) hk2 _) ?_
      refine latk Try.call90 (fun w h => wdDown_v (x + (pN : Int) * (kkOf n x)) hy.1 hy.2 _) ?_
      exact lato 0 1 flWd.2 (nv_cells 7 [wr ((x + (pN : Int) * (kkOf n x)) / 2 ^ 60)]) A17 .nil
    intro w20 w20_ hb20 hs20 HB28
    have A22 := A17.keep hb20.out
    have A26 := hs20.here 0 1 (l' := [.n 7 (wr ((x + (pN : Int) * (kkOf n x)) / 2 ^ 60))]) A22 rfl rfl rfl
    exact wpr (ret1 Try.results91 (res_nv (K := 7) (l := [wr ((x + (pN : Int) * (kkOf n x)) / 2 ^ 60)]) rfl A26 flWd rfl)) HB28
  · refine rh0 HB9 [6, 7, 8, 9, 10, 11, 12, 13, 4] [pz (γ1 0), .int .u64 ((lb (wr x) 0 : Nat) : Int), pz (γ5 0), .int .u64 ((lb pN 0 : Nat) : Int), .int .u64 (n : Int), .int .u64 (((lb (wr x) 0 : Nat) : Int) * (n : Int) % 18446744073709551616), .int .u64 (((lb (wr x) 0 : Nat) : Int) * (n : Int) % 18446744073709551616 % 1152921504606846976), .int .i64 (kkOf n x + 1152921504606846976), .int .i64 (kkOf n x + 1152921504606846976)] ?_ ?_
    · refine stpx (fun _ _ => ex_at (i := 0) (g := (γ1 0)) Try.underlying114 Try.sizeOf24 rfl rfl (by decide)) ?_
      refine stpv (fun γ w h => ex_ldl (v := wr x) (o := 0) (A6.keep h.out) (by decide) rfl) ?_
      refine stpx (fun _ _ => ex_at (i := 0) (g := (γ5 0)) Try.underlying26 Try.sizeOf24 rfl rfl (by decide)) ?_
      refine stpv (fun γ w h => ex_ldl (v := pN) (o := 0) (A8.keep h.out) (by decide) rfl) ?_
      refine stpk Try.call78 (fun w h => neg_is hn _) ?_
      refine stpx (fun _ _ => ex_imul rfl rfl ((((lb (wr x) 0 : Nat) : Int) * (n : Int) % 18446744073709551616)) (IntKind.wrap_u64 _)) ?_
      refine stpx (fun _ _ => ex_iremu rfl rfl (by decide) (Int.emod_nonneg _ (by decide))) ?_
      refine stpx (fun _ _ => ex_cvUI rfl ((kkOf n x + 1152921504606846976)) (kOf_pos hc)) ?_
      exact stpa .nil
    intro w29 hb29 HB33
    have A30 := A6.keep hb29.out
    have A31 := A7.keep hb29.out
    have A32 := A8.keep hb29.out
    refine wp_seq ?_
    refine rh0 HB33 [14, 15, 16] [nv 7 [wr x], .bool false, .bool true] ?_ ?_
    · refine stpv (fun γ w h => ex_loadsn (K := 7) 0 1 (m := [wr x]) flWd rfl rfl (A30.keep h.out) rfl rfl) ?_
      refine stpk Try.call92 (fun w h => wdNeg_v x hx.1 hx.2 false (decide_eq_false hc).symm _) ?_
      exact stpx (fun _ _ => ex_not (r := false) rfl) .nil
    intro w34 hb34 HB38
    have A35 := A30.keep hb34.out
    have A36 := A31.keep hb34.out
    have A37 := A32.keep hb34.out
    refine wp_cond_true rfl ?_
    refine wp_region_lit ?_
    refine svm (.int .i64 (kkOf n x + 1152921504606846976)) ?_
    refine sv1 (.int .i64 (kkOf n x)) (ex_isub rfl rfl ((kkOf n x)) (kOf_sub hk)) ?_
    refine sva (.int .i64 (kkOf n x)) ?_
    refine wpList_nil ?_
    refine th_r ?_
    refine rhs HB38 le3 6 0 [.n 7 (wr ((x + (pN : Int) * (kkOf n x)) / 2 ^ 60))] [19, 20, 21, 22, 23, 24] [nv 7 [wr x], nv 6 [pN], nv 7 [wr (pN : Int)], .int .i64 (kkOf n x), nv 7 [wr (x + (pN : Int) * (kkOf n x))], nv 7 [wr ((x + (pN : Int) * (kkOf n x)) / 2 ^ 60)]] ?_ ?_
    · refine latv (fun γ w h => ex_loadsn (K := 7) 0 1 (m := [wr x]) flWd rfl rfl (A35.keep h.out) rfl rfl) ?_
      refine latl 0 1 flFpI A37 ?_
      refine latk Try.call87 (fun w h => wdWiden_i pN fpM_ltI _) ?_
      refine latm ?_
      refine latk Try.call94 (fun w h => wdPlus_v x (pN : Int) (kkOf n x) hk2 _) ?_
      refine latk Try.call90 (fun w h => wdDown_v (x + (pN : Int) * (kkOf n x)) hy.1 hy.2 _) ?_
      exact lato 0 1 flWd.2 (nv_cells 7 [wr ((x + (pN : Int) * (kkOf n x)) / 2 ^ 60)]) A36 .nil
    intro w39 w39_ hb39 hs39 HB47
    have A41 := A36.keep hb39.out
    have A45 := hs39.here 0 1 (l' := [.n 7 (wr ((x + (pN : Int) * (kkOf n x)) / 2 ^ 60))]) A41 rfl rfl rfl
    exact wpr (ret1 Try.results91 (res_nv (K := 7) (l := [wr ((x + (pN : Int) * (kkOf n x)) / 2 ^ 60)]) rfl A45 flWd rfl)) HB47
theorem wdWalk_0 {f0 g0 : Int} (T f g : Int) (h : WalkOf f0 g0 (ws0 T f g)) : CI 88 #[.int .i64 T, .int .u64 f, .int .u64 g] (.tuple #[.int .i64 (wsn 60 (ws0 T f g)).t, sv [.i .i64 (wsn 60 (ws0 T f g)).a, .i .i64 (wsn 60 (ws0 T f g)).b, .i .i64 (wsn 60 (ws0 T f g)).c, .i .i64 (wsn 60 (ws0 T f g)).d]]) := fun w => by
  go_enter Try.func88, Try.ntmps88
  refine rh1 (brf w) 118 1 [.i .i64 0, .i .i64 0, .i .i64 0, .i .i64 0] [6, 7] (fun γ => [.int .i64 0, pz (γ 0)]) ?_ ?_
  · refine stpa ?_
    exact stpb 0 (fun γ w h => ex_allocs (l := [.i .i64 0, .i .i64 0, .i .i64 0, .i .i64 0]) zFa) .nil
  intro γ1 w1 hb1 A2 le2 HB3
  refine rh0 HB3 [8, 9, 10, 11] [.int .i64 1, .int .i64 0, .int .i64 0, .int .i64 1] ?_ ?_
  · refine stpa ?_
    refine stpa ?_
    refine stpa ?_
    exact stpa .nil
  intro w4 hb4 HB6
  have A5 := A2.keep hb4.out
  refine wp_seq ?_
  refine rh0 HB6 [12] [.int .i64 0] ?_ ?_
  · exact stpm .nil
  intro w7 hb7 HB9
  have A8 := A5.keep hb7.out
  refine wp_block ?_
  refine wp_loop_by (60) (fun q_ a_ v_ => ∃ j13 j14 j15 j16 j17 j18 j19 j20 j21 j22 j23 j24 j25 j26 j27 j28 j29 j30 j31 j32 j33 j34 j35 j36 j37 j38 j39 j40 j41 j42 j43 j44 j45 j46 j47 j48 j49 j50 j51 j52 : Value, a_ = ⟨List.toArray ((.int .i64 (wsn q_ (ws0 T f g)).t) :: (.int .u64 (wsn q_ (ws0 T f g)).f) :: (.int .u64 (wsn q_ (ws0 T f g)).g) :: undef :: undef :: undef :: (.int .i64 0) :: (pz (γ1 0)) :: (.int .i64 (wsn q_ (ws0 T f g)).a) :: (.int .i64 (wsn q_ (ws0 T f g)).b) :: (.int .i64 (wsn q_ (ws0 T f g)).c) :: (.int .i64 (wsn q_ (ws0 T f g)).d) :: (.int .i64 ((q_ : Nat) : Int)) :: j13 :: j14 :: j15 :: j16 :: j17 :: j18 :: j19 :: j20 :: j21 :: j22 :: j23 :: j24 :: j25 :: j26 :: j27 :: j28 :: j29 :: j30 :: j31 :: j32 :: j33 :: j34 :: j35 :: j36 :: j37 :: j38 :: j39 :: j40 :: j41 :: j42 :: j43 :: j44 :: j45 :: j46 :: j47 :: j48 :: j49 :: j50 :: j51 :: j52 :: undef :: undef :: undef :: undef :: undef :: undef :: undef :: undef :: []), []⟩ ∧ SB 118 v_ (γ1 0) [.i .i64 0, .i .i64 0, .i .i64 0, .i .i64 0] ∧ Below w.heap.size w v_) ⟨_, _, _, _, _, _, _, _, _, _, _, _, _, _, _, _, _, _, _, _, _, _, _, _, _, _, _, _, _, _, _, _, _, _, _, _, _, _, _, _, rfl, A8, HB9⟩ ?_ ?_
  · intro k10 hk10
    rintro _ w10 ⟨i10_13, i10_14, i10_15, i10_16, i10_17, i10_18, i10_19, i10_20, i10_21, i10_22, i10_23, i10_24, i10_25, i10_26, i10_27, i10_28, i10_29, i10_30, i10_31, i10_32, i10_33, i10_34, i10_35, i10_36, i10_37, i10_38, i10_39, i10_40, i10_41, i10_42, i10_43, i10_44, i10_45, i10_46, i10_47, i10_48, i10_49, i10_50, i10_51, i10_52, rfl, A10_0, HB10⟩ K10 hK10
    obtain ⟨hI, hO⟩ := h.inn (Nat.le_of_lt hk10)
    replace hO := hO hk10
    obtain ⟨t0, t1, u0, u1, v0, v1, a0, a1, b0, b1, c0, c1, d0, d1⟩ := hI
    have hI : WIn (wsn k10 (ws0 T f g)) := ⟨t0, t1, u0, u1, v0, v1, a0, a1, b0, b1, c0, c1, d0, d1⟩
    refine rh0 HB10 [13] [.bool true] ?_ ?_
    · exact stpx (fun _ _ => ex_ilss rfl rfl true (cnt_lt hk10)) .nil
    intro w11 hb11 HB13
    have A12 := A10_0.keep hb11.out
    refine wp_seq ?_
    refine wp_cond_true rfl ?_
    refine wp_skip ?_
    refine th_r ?_
    refine wp_seq ?_
    refine wp_block ?_
    refine wp_seq ?_
    rcases wcase (wsn k10 (ws0 T f g)) with hc | hc | hc
    · have hq1 : true = ((wsn k10 (ws0 T f g)).g % 2 == 1) := by rw [hc.1]; rfl
      have hp1 := (decide_eq_true hc.2).symm
      have hq2 : true = (((-(wsn k10 (ws0 T f g)).f) % 18446744073709551616) % 2 == 1) := by rw [show ((-(wsn k10 (ws0 T f g)).f) % 18446744073709551616) % 2 = 1 by omega]; rfl
      have he := wstep_swap hc
      refine rh0 HB13 [14, 15, 16, 17, 18, 19, 20] [.int .u64 (wsn k10 (ws0 T f g)).g, .int .u64 ((wsn k10 (ws0 T f g)).g % 2), .bool true, .bool true, .int .i64 (wsn k10 (ws0 T f g)).t, .bool true, .bool true] ?_ ?_
      · refine stpm ?_
        refine stpx (fun _ _ => ex_iremu rfl rfl (by decide) hI.v0) ?_
        refine stpx (fun _ _ => ex_eqi rfl rfl true hq1) ?_
        refine stpm ?_
        refine stpm ?_
        refine stpx (fun _ _ => ex_igtr rfl rfl true hp1) ?_
        exact stpx (fun _ _ => ex_pick (r := true) rfl) .nil
      intro w14 hb14 HB16
      have A15 := A12.keep hb14.out
      refine wp_cond_true rfl ?_
      refine seq_lit ?_
      refine svm (.int .i64 (wsn k10 (ws0 T f g)).t) ?_
      refine sv1 (.int .i64 (-(wsn k10 (ws0 T f g)).t)) (ex_ineg rfl ((-(wsn k10 (ws0 T f g)).t)) (wrapI64 (by omega) (by omega))) ?_
      refine svm (.int .u64 (wsn k10 (ws0 T f g)).g) ?_
      refine svm (.int .u64 (wsn k10 (ws0 T f g)).f) ?_
      refine sv1 (.int .u64 ((-(wsn k10 (ws0 T f g)).f) % 18446744073709551616)) (ex_ineg rfl (((-(wsn k10 (ws0 T f g)).f) % 18446744073709551616)) (IntKind.wrap_u64 _)) ?_
      refine sva (.int .i64 (-(wsn k10 (ws0 T f g)).t)) ?_
      refine sva (.int .u64 (wsn k10 (ws0 T f g)).g) ?_
      refine sva (.int .u64 ((-(wsn k10 (ws0 T f g)).f) % 18446744073709551616)) ?_
      refine seq_nil ?_
      refine wp_region_lit ?_
      refine svm (.int .i64 (wsn k10 (ws0 T f g)).c) ?_
      refine svm (.int .i64 (wsn k10 (ws0 T f g)).d) ?_
      refine svm (.int .i64 (wsn k10 (ws0 T f g)).a) ?_
      refine sv1 (.int .i64 (-(wsn k10 (ws0 T f g)).a)) (ex_ineg rfl ((-(wsn k10 (ws0 T f g)).a)) (wrapI64 (by omega) (by omega))) ?_
      refine svm (.int .i64 (wsn k10 (ws0 T f g)).b) ?_
      refine sv1 (.int .i64 (-(wsn k10 (ws0 T f g)).b)) (ex_ineg rfl ((-(wsn k10 (ws0 T f g)).b)) (wrapI64 (by omega) (by omega))) ?_
      refine sva (.int .i64 (wsn k10 (ws0 T f g)).c) ?_
      refine sva (.int .i64 (wsn k10 (ws0 T f g)).d) ?_
      refine sva (.int .i64 (-(wsn k10 (ws0 T f g)).a)) ?_
      refine sva (.int .i64 (-(wsn k10 (ws0 T f g)).b)) ?_
      refine wpList_nil ?_
      refine th_r ?_
      refine wp_seq ?_
      refine rh0 HB16 [32, 33, 34] [.int .u64 ((-(wsn k10 (ws0 T f g)).f) % 18446744073709551616), .int .u64 (((-(wsn k10 (ws0 T f g)).f) % 18446744073709551616) % 2), .bool true] ?_ ?_
      · refine stpm ?_
        refine stpx (fun _ _ => ex_iremu rfl rfl (by decide) (Int.emod_nonneg _ (by decide))) ?_
        exact stpx (fun _ _ => ex_eqi rfl rfl true hq2) .nil
      intro w17 hb17 HB19
      have A18 := A15.keep hb17.out
      refine wp_cond_true rfl ?_
      refine wp_region_lit ?_
      refine svm (.int .u64 ((-(wsn k10 (ws0 T f g)).f) % 18446744073709551616)) ?_
      refine svm (.int .u64 (wsn k10 (ws0 T f g)).g) ?_
      refine sv1 (.int .u64 ((((-(wsn k10 (ws0 T f g)).f) % 18446744073709551616) + (wsn k10 (ws0 T f g)).g) % 18446744073709551616)) (ex_iadd rfl rfl (((((-(wsn k10 (ws0 T f g)).f) % 18446744073709551616) + (wsn k10 (ws0 T f g)).g) % 18446744073709551616)) (IntKind.wrap_u64 _)) ?_
      refine svm (.int .i64 (-(wsn k10 (ws0 T f g)).a)) ?_
      refine svm (.int .i64 (wsn k10 (ws0 T f g)).c) ?_
      refine sv1 (.int .i64 ((-(wsn k10 (ws0 T f g)).a) + (wsn k10 (ws0 T f g)).c)) (ex_iadd rfl rfl (((-(wsn k10 (ws0 T f g)).a) + (wsn k10 (ws0 T f g)).c)) (wrapI64 (by omega) (by omega))) ?_
      refine svm (.int .i64 (-(wsn k10 (ws0 T f g)).b)) ?_
      refine svm (.int .i64 (wsn k10 (ws0 T f g)).d) ?_
      refine sv1 (.int .i64 ((-(wsn k10 (ws0 T f g)).b) + (wsn k10 (ws0 T f g)).d)) (ex_iadd rfl rfl (((-(wsn k10 (ws0 T f g)).b) + (wsn k10 (ws0 T f g)).d)) (wrapI64 (by omega) (by omega))) ?_
      refine sva (.int .u64 ((((-(wsn k10 (ws0 T f g)).f) % 18446744073709551616) + (wsn k10 (ws0 T f g)).g) % 18446744073709551616)) ?_
      refine sva (.int .i64 ((-(wsn k10 (ws0 T f g)).a) + (wsn k10 (ws0 T f g)).c)) ?_
      refine sva (.int .i64 ((-(wsn k10 (ws0 T f g)).b) + (wsn k10 (ws0 T f g)).d)) ?_
      refine wpList_nil ?_
      refine th_r ?_
      refine wp_region_lit ?_
      refine svm (.int .i64 (-(wsn k10 (ws0 T f g)).t)) ?_
      refine sv1 (.int .i64 ((-(wsn k10 (ws0 T f g)).t) + 1)) (ex_iadd rfl rfl (((-(wsn k10 (ws0 T f g)).t) + 1)) (wrapI64 (by omega) (by omega))) ?_
      refine svm (.int .u64 ((((-(wsn k10 (ws0 T f g)).f) % 18446744073709551616) + (wsn k10 (ws0 T f g)).g) % 18446744073709551616)) ?_
      refine sv1 (.int .u64 (((((-(wsn k10 (ws0 T f g)).f) % 18446744073709551616) + (wsn k10 (ws0 T f g)).g) % 18446744073709551616) / 2)) (ex_iquou rfl rfl (by decide) (Int.emod_nonneg _ (by decide)) ((((((-(wsn k10 (ws0 T f g)).f) % 18446744073709551616) + (wsn k10 (ws0 T f g)).g) % 18446744073709551616) / 2)) (wrap64 (by omega) (by omega))) ?_
      refine svm (.int .i64 (wsn k10 (ws0 T f g)).c) ?_
      refine sv1 (.int .i64 (2 * (wsn k10 (ws0 T f g)).c)) (ex_imul rfl rfl ((2 * (wsn k10 (ws0 T f g)).c)) (wrapI64 (by omega) (by omega))) ?_
      refine svm (.int .i64 (wsn k10 (ws0 T f g)).d) ?_
      refine sv1 (.int .i64 (2 * (wsn k10 (ws0 T f g)).d)) (ex_imul rfl rfl ((2 * (wsn k10 (ws0 T f g)).d)) (wrapI64 (by omega) (by omega))) ?_
      refine sva (.int .i64 ((-(wsn k10 (ws0 T f g)).t) + 1)) ?_
      refine sva (.int .u64 (((((-(wsn k10 (ws0 T f g)).f) % 18446744073709551616) + (wsn k10 (ws0 T f g)).g) % 18446744073709551616) / 2)) ?_
      refine sva (.int .i64 (2 * (wsn k10 (ws0 T f g)).c)) ?_
      refine sva (.int .i64 (2 * (wsn k10 (ws0 T f g)).d)) ?_
      refine wpList_nil ?_
      refine bk_n ?_
      refine th_r ?_
      refine wp_region_lit ?_
      refine sv1 (.int .i64 ((k10 + 1 : Nat) : Int)) (ex_iadd rfl rfl ((k10 + 1 : Nat) : Int) (cnt_next (by omega))) ?_
      refine svm (.int .i64 ((k10 + 1 : Nat) : Int)) ?_
      refine wpList_nil ?_
      refine th_r ?_
      exact hK10.out _ _ ⟨_, _, _, _, _, _, _, _, _, _, _, _, _, _, _, _, _, _, _, _, _, _, _, _, _, _, _, _, _, _, _, _, _, _, _, _, _, _, _, _, (by rw [wsn_succ, he]), A18, HB19⟩
    · have hq1 : true = ((wsn k10 (ws0 T f g)).g % 2 == 1) := by rw [hc.1]; rfl
      have hp0 := (decide_eq_false hc.2).symm
      have he := wstep_stay hc
      refine rh0 HB13 [14, 15, 16, 17, 18, 19, 20] [.int .u64 (wsn k10 (ws0 T f g)).g, .int .u64 ((wsn k10 (ws0 T f g)).g % 2), .bool true, .bool true, .int .i64 (wsn k10 (ws0 T f g)).t, .bool false, .bool false] ?_ ?_
      · refine stpm ?_
        refine stpx (fun _ _ => ex_iremu rfl rfl (by decide) hI.v0) ?_
        refine stpx (fun _ _ => ex_eqi rfl rfl true hq1) ?_
        refine stpm ?_
        refine stpm ?_
        refine stpx (fun _ _ => ex_igtr rfl rfl false hp0) ?_
        exact stpx (fun _ _ => ex_pick (r := true) rfl) .nil
      intro w20 hb20 HB22
      have A21 := A12.keep hb20.out
      refine wp_cond_false rfl ?_
      refine wp_skip ?_
      refine th_r ?_
      refine wp_seq ?_
      refine rh0 HB22 [32, 33, 34] [.int .u64 (wsn k10 (ws0 T f g)).g, .int .u64 ((wsn k10 (ws0 T f g)).g % 2), .bool true] ?_ ?_
      · refine stpm ?_
        refine stpx (fun _ _ => ex_iremu rfl rfl (by decide) hI.v0) ?_
        exact stpx (fun _ _ => ex_eqi rfl rfl true hq1) .nil
      intro w23 hb23 HB25
      have A24 := A21.keep hb23.out
      refine wp_cond_true rfl ?_
      refine wp_region_lit ?_
      refine svm (.int .u64 (wsn k10 (ws0 T f g)).g) ?_
      refine svm (.int .u64 (wsn k10 (ws0 T f g)).f) ?_
      refine sv1 (.int .u64 (((wsn k10 (ws0 T f g)).g + (wsn k10 (ws0 T f g)).f) % 18446744073709551616)) (ex_iadd rfl rfl ((((wsn k10 (ws0 T f g)).g + (wsn k10 (ws0 T f g)).f) % 18446744073709551616)) (IntKind.wrap_u64 _)) ?_
      refine svm (.int .i64 (wsn k10 (ws0 T f g)).c) ?_
      refine svm (.int .i64 (wsn k10 (ws0 T f g)).a) ?_
      refine sv1 (.int .i64 ((wsn k10 (ws0 T f g)).c + (wsn k10 (ws0 T f g)).a)) (ex_iadd rfl rfl (((wsn k10 (ws0 T f g)).c + (wsn k10 (ws0 T f g)).a)) (wrapI64 (by omega) (by omega))) ?_
      refine svm (.int .i64 (wsn k10 (ws0 T f g)).d) ?_
      refine svm (.int .i64 (wsn k10 (ws0 T f g)).b) ?_
      refine sv1 (.int .i64 ((wsn k10 (ws0 T f g)).d + (wsn k10 (ws0 T f g)).b)) (ex_iadd rfl rfl (((wsn k10 (ws0 T f g)).d + (wsn k10 (ws0 T f g)).b)) (wrapI64 (by omega) (by omega))) ?_
      refine sva (.int .u64 (((wsn k10 (ws0 T f g)).g + (wsn k10 (ws0 T f g)).f) % 18446744073709551616)) ?_
      refine sva (.int .i64 ((wsn k10 (ws0 T f g)).c + (wsn k10 (ws0 T f g)).a)) ?_
      refine sva (.int .i64 ((wsn k10 (ws0 T f g)).d + (wsn k10 (ws0 T f g)).b)) ?_
      refine wpList_nil ?_
      refine th_r ?_
      refine wp_region_lit ?_
      refine svm (.int .i64 (wsn k10 (ws0 T f g)).t) ?_
      refine sv1 (.int .i64 ((wsn k10 (ws0 T f g)).t + 1)) (ex_iadd rfl rfl (((wsn k10 (ws0 T f g)).t + 1)) (wrapI64 (by omega) (by omega))) ?_
      refine svm (.int .u64 (((wsn k10 (ws0 T f g)).g + (wsn k10 (ws0 T f g)).f) % 18446744073709551616)) ?_
      refine sv1 (.int .u64 ((((wsn k10 (ws0 T f g)).g + (wsn k10 (ws0 T f g)).f) % 18446744073709551616) / 2)) (ex_iquou rfl rfl (by decide) (Int.emod_nonneg _ (by decide)) (((((wsn k10 (ws0 T f g)).g + (wsn k10 (ws0 T f g)).f) % 18446744073709551616) / 2)) (wrap64 (by omega) (by omega))) ?_
      refine svm (.int .i64 (wsn k10 (ws0 T f g)).a) ?_
      refine sv1 (.int .i64 (2 * (wsn k10 (ws0 T f g)).a)) (ex_imul rfl rfl ((2 * (wsn k10 (ws0 T f g)).a)) (wrapI64 (by omega) (by omega))) ?_
      refine svm (.int .i64 (wsn k10 (ws0 T f g)).b) ?_
      refine sv1 (.int .i64 (2 * (wsn k10 (ws0 T f g)).b)) (ex_imul rfl rfl ((2 * (wsn k10 (ws0 T f g)).b)) (wrapI64 (by omega) (by omega))) ?_
      refine sva (.int .i64 ((wsn k10 (ws0 T f g)).t + 1)) ?_
      refine sva (.int .u64 ((((wsn k10 (ws0 T f g)).g + (wsn k10 (ws0 T f g)).f) % 18446744073709551616) / 2)) ?_
      refine sva (.int .i64 (2 * (wsn k10 (ws0 T f g)).a)) ?_
      refine sva (.int .i64 (2 * (wsn k10 (ws0 T f g)).b)) ?_
      refine wpList_nil ?_
      refine bk_n ?_
      refine th_r ?_
      refine wp_region_lit ?_
      refine sv1 (.int .i64 ((k10 + 1 : Nat) : Int)) (ex_iadd rfl rfl ((k10 + 1 : Nat) : Int) (cnt_next (by omega))) ?_
      refine svm (.int .i64 ((k10 + 1 : Nat) : Int)) ?_
      refine wpList_nil ?_
      refine th_r ?_
      exact hK10.out _ _ ⟨_, _, _, _, _, _, _, _, _, _, _, _, _, _, _, _, _, _, _, _, _, _, _, _, _, _, _, _, _, _, _, _, _, _, _, _, _, _, _, _, (by rw [wsn_succ, he]), A24, HB25⟩
    · have hq0 : false = ((wsn k10 (ws0 T f g)).g % 2 == 1) := by rw [show (wsn k10 (ws0 T f g)).g % 2 = 0 by omega]; rfl
      have he := wstep_even hc
      refine rh0 HB13 [14, 15, 16, 17, 18, 19, 20] [.int .u64 (wsn k10 (ws0 T f g)).g, .int .u64 ((wsn k10 (ws0 T f g)).g % 2), .bool false, .bool false, undef, undef, .bool false] ?_ ?_
      · refine stpm ?_
        refine stpx (fun _ _ => ex_iremu rfl rfl (by decide) hI.v0) ?_
        refine stpx (fun _ _ => ex_eqi rfl rfl false hq0) ?_
        refine stpm ?_
        refine stps ?_
        refine stps ?_
        exact stpx (fun _ _ => ex_pick (r := false) rfl) .nil
      intro w26 hb26 HB28
      have A27 := A12.keep hb26.out
      refine wp_cond_false rfl ?_
      refine wp_skip ?_
      refine th_r ?_
      refine wp_seq ?_
      refine rh0 HB28 [32, 33, 34] [.int .u64 (wsn k10 (ws0 T f g)).g, .int .u64 ((wsn k10 (ws0 T f g)).g % 2), .bool false] ?_ ?_
      · refine stpm ?_
        refine stpx (fun _ _ => ex_iremu rfl rfl (by decide) hI.v0) ?_
        exact stpx (fun _ _ => ex_eqi rfl rfl false hq0) .nil
      intro w29 hb29 HB31
      have A30 := A27.keep hb29.out
      refine wp_cond_false rfl ?_
      refine wp_skip ?_
      refine th_r ?_
      refine wp_region_lit ?_
      refine svm (.int .i64 (wsn k10 (ws0 T f g)).t) ?_
      refine sv1 (.int .i64 ((wsn k10 (ws0 T f g)).t + 1)) (ex_iadd rfl rfl (((wsn k10 (ws0 T f g)).t + 1)) (wrapI64 (by omega) (by omega))) ?_
      refine svm (.int .u64 (wsn k10 (ws0 T f g)).g) ?_
      refine sv1 (.int .u64 ((wsn k10 (ws0 T f g)).g / 2)) (ex_iquou rfl rfl (by decide) hI.v0 (((wsn k10 (ws0 T f g)).g / 2)) (wrap64 (by omega) (by omega))) ?_
      refine svm (.int .i64 (wsn k10 (ws0 T f g)).a) ?_
      refine sv1 (.int .i64 (2 * (wsn k10 (ws0 T f g)).a)) (ex_imul rfl rfl ((2 * (wsn k10 (ws0 T f g)).a)) (wrapI64 (by omega) (by omega))) ?_
      refine svm (.int .i64 (wsn k10 (ws0 T f g)).b) ?_
      refine sv1 (.int .i64 (2 * (wsn k10 (ws0 T f g)).b)) (ex_imul rfl rfl ((2 * (wsn k10 (ws0 T f g)).b)) (wrapI64 (by omega) (by omega))) ?_
      refine sva (.int .i64 ((wsn k10 (ws0 T f g)).t + 1)) ?_
      refine sva (.int .u64 ((wsn k10 (ws0 T f g)).g / 2)) ?_
      refine sva (.int .i64 (2 * (wsn k10 (ws0 T f g)).a)) ?_
      refine sva (.int .i64 (2 * (wsn k10 (ws0 T f g)).b)) ?_
      refine wpList_nil ?_
      refine bk_n ?_
      refine th_r ?_
      refine wp_region_lit ?_
      refine sv1 (.int .i64 ((k10 + 1 : Nat) : Int)) (ex_iadd rfl rfl ((k10 + 1 : Nat) : Int) (cnt_next (by omega))) ?_
      refine svm (.int .i64 ((k10 + 1 : Nat) : Int)) ?_
      refine wpList_nil ?_
      refine th_r ?_
      exact hK10.out _ _ ⟨_, _, _, _, _, _, _, _, _, _, _, _, _, _, _, _, _, _, _, _, _, _, _, _, _, _, _, _, _, _, _, _, _, _, _, _, _, _, _, _, (by rw [wsn_succ, he]), A30, HB31⟩
  · rintro _ w32 ⟨i32_13, i32_14, i32_15, i32_16, i32_17, i32_18, i32_19, i32_20, i32_21, i32_22, i32_23, i32_24, i32_25, i32_26, i32_27, i32_28, i32_29, i32_30, i32_31, i32_32, i32_33, i32_34, i32_35, i32_36, i32_37, i32_38, i32_39, i32_40, i32_41, i32_42, i32_43, i32_44, i32_45, i32_46, i32_47, i32_48, i32_49, i32_50, i32_51, i32_52, rfl, A32_0, HB32⟩ K32
    refine rh0 HB32 [13] [.bool false] ?_ ?_
    · exact stpx (fun _ _ => ex_ilss rfl rfl false rfl) .nil
    intro w33 hb33 HB35
    have A34 := A32_0.keep hb33.out
    refine wp_seq ?_
    refine wp_cond_false rfl ?_
    refine wp_exit (th_e (th_e (bk_e ?_)))
    refine th_r ?_
    refine rhs HB35 le2 9 0 [.i .i64 ((wsn 60 (ws0 T f g)).a), .i .i64 ((wsn 60 (ws0 T f g)).b), .i .i64 ((wsn 60 (ws0 T f g)).c), .i .i64 ((wsn 60 (ws0 T f g)).d)] [53, 54, 55, 56, 57, 58, 59, 60, 6] [.int .i64 (wsn 60 (ws0 T f g)).t, .int .i64 (wsn 60 (ws0 T f g)).a, .int .i64 (wsn 60 (ws0 T f g)).b, sv [.i .i64 ((wsn 60 (ws0 T f g)).a), .i .i64 ((wsn 60 (ws0 T f g)).b)], .int .i64 (wsn 60 (ws0 T f g)).c, .int .i64 (wsn 60 (ws0 T f g)).d, sv [.i .i64 ((wsn 60 (ws0 T f g)).c), .i .i64 ((wsn 60 (ws0 T f g)).d)], sv [.i .i64 ((wsn 60 (ws0 T f g)).a), .i .i64 ((wsn 60 (ws0 T f g)).b), .i .i64 ((wsn 60 (ws0 T f g)).c), .i .i64 ((wsn 60 (ws0 T f g)).d)], .int .i64 (wsn 60 (ws0 T f g)).t] ?_ ?_
    · refine latm ?_
      refine latm ?_
      refine latm ?_
      refine latv (fun γ w h => ex_pairI rfl rfl) ?_
      refine latm ?_
      refine latm ?_
      refine latv (fun γ w h => ex_pairI rfl rfl) ?_
      refine latv (fun γ w h => ex_builds stFa (l := [.i .i64 ((wsn 60 (ws0 T f g)).a), .i .i64 ((wsn 60 (ws0 T f g)).b), .i .i64 ((wsn 60 (ws0 T f g)).c), .i .i64 ((wsn 60 (ws0 T f g)).d)]) (vs := [(0, sv [.i .i64 ((wsn 60 (ws0 T f g)).a), .i .i64 ((wsn 60 (ws0 T f g)).b)]), (1, sv [.i .i64 ((wsn 60 (ws0 T f g)).c), .i .i64 ((wsn 60 (ws0 T f g)).d)])]) rfl ((fills_cons 0 2 (m := [.i .i64 ((wsn 60 (ws0 T f g)).a), .i .i64 ((wsn 60 (ws0 T f g)).b)]) (z' := [.i .i64 ((wsn 60 (ws0 T f g)).a), .i .i64 ((wsn 60 (ws0 T f g)).b), .i .i64 0, .i .i64 0]) rfl rfl rfl rfl rfl rfl).trans ((fills_cons 2 2 (m := [.i .i64 ((wsn 60 (ws0 T f g)).c), .i .i64 ((wsn 60 (ws0 T f g)).d)]) (z' := [.i .i64 ((wsn 60 (ws0 T f g)).a), .i .i64 ((wsn 60 (ws0 T f g)).b), .i .i64 ((wsn 60 (ws0 T f g)).c), .i .i64 ((wsn 60 (ws0 T f g)).d)]) rfl rfl rfl rfl rfl rfl).trans rfl))) ?_
      refine latv (fun γ w h => ex_assign _) ?_
      exact latq 0 4 flFa.2 A34 .nil
    intro w36 w36_ hb36 hs36 HB40
    have A37 := A34.keep hb36.out
    have A39 := hs36.here 0 4 (l' := [.i .i64 ((wsn 60 (ws0 T f g)).a), .i .i64 ((wsn 60 (ws0 T f g)).b), .i .i64 ((wsn 60 (ws0 T f g)).c), .i .i64 ((wsn 60 (ws0 T f g)).d)]) A37 rfl rfl rfl
    exact wpr (ret2 Try.results88 (res_tmp rfl) (res_sv rfl A39 flFa rfl)) HB40
end Go.Proofs.Ytkkmekdhejhapaa

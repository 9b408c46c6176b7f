/- What is proved here: the laws of package sum: that it is alive; slices of a point or two; the law SumTwos. -/
import Derived.Test.YtkkmekdhejhapaaGreatSum1
import Derived.Test.YtkkmekdhejhapaaGreatTwo3
import Derived.Test.YtkkmekdhejhapaaGreatSumAllT
namespace Go.Proofs.YtkkmekdhejhapaaGreat
section
open Go.RowKit Cv
set_option maxRecDepth 20000
set_option maxHeartbeats 4000000
theorem sumalive_v : CI 20 #[] (.bool true) := fun w => by
  go_enter Tryz.func20, Tryz.ntmps20
  refine rh0 (brf w) [0] [.bool false] ?_ ?_
  · exact stpa .nil
  intro w1 hb1 HB2
  refine rhc HB2 [(26, 4, 5, [.n 6 0, .n 6 0, .b false], [.n 6 (ax (((sumE1 (fun _ => Z1) (fun _ => 0) 0)).pt)), .n 6 (ay (((sumE1 (fun _ => Z1) (fun _ => 0) 0)).pt)), .b (ai (((sumE1 (fun _ => Z1) (fun _ => 0) 0)).pt))])] [4, 3, 5, 6, 1, 2] (fun γ => [.tuple #[sv [.n 6 (ax (((sumE1 (fun _ => Z1) (fun _ => 0) 0)).pt)), .n 6 (ay (((sumE1 (fun _ => Z1) (fun _ => 0) 0)).pt)), .b (ai (((sumE1 (fun _ => Z1) (fun _ => 0) 0)).pt))], .int .i64 0], .tuple #[sv [.n 6 (ax (((sumE1 (fun _ => Z1) (fun _ => 0) 0)).pt)), .n 6 (ay (((sumE1 (fun _ => Z1) (fun _ => 0) 0)).pt)), .b (ai (((sumE1 (fun _ => Z1) (fun _ => 0) 0)).pt))], .int .i64 0], sv [.n 6 (ax (((sumE1 (fun _ => Z1) (fun _ => 0) 0)).pt)), .n 6 (ay (((sumE1 (fun _ => Z1) (fun _ => 0) 0)).pt)), .b (ai (((sumE1 (fun _ => Z1) (fun _ => 0) 0)).pt))], .int .i64 0, pz (γ 0), .int .i64 0]) ?_ ?_
  · refine stpc (.tuple #[sv [.n 6 (ax (((sumE1 (fun _ => Z1) (fun _ => 0) 0)).pt)), .n 6 (ay (((sumE1 (fun _ => Z1) (fun _ => 0) 0)).pt)), .b (ai (((sumE1 (fun _ => Z1) (fun _ => 0) 0)).pt))], .int .i64 0]) (fun γ w => ex_call (vs := [.slice none 0 0, .slice none 0 0]) rfl Tryz.call55 rfl) (fun w h => sumFew1_p 0 (by decide) (fun _ => Z1) (fun _ => 0) none none 0 0 (by decide) (fun i hi => absurd hi (Nat.not_lt_zero i)) _ (Row.none _ _ _ _) (Row.none _ _ _ _)) ?_
    refine stpm ?_
    refine stpx (fun _ _ => ex_extract rfl rfl) ?_
    refine stpx (fun _ _ => ex_extract rfl rfl) ?_
    refine stpn 0 (fun γ w => ex_allocs (l := [.n 6 0, .n 6 0, .b false]) zG1) ?_
    refine stpq 0 0 3 flG1.2 ?_
    exact stpa .nil
  intro γ3 w3 hb3 hB3 _ HB5
  have A4 : SB 26 w3 (γ3 0) [.n 6 (ax (((sumE1 (fun _ => Z1) (fun _ => 0) 0)).pt)), .n 6 (ay (((sumE1 (fun _ => Z1) (fun _ => 0) 0)).pt)), .b (ai (((sumE1 (fun _ => Z1) (fun _ => 0) 0)).pt))] := (hB3 0 rfl).2
  refine rh0 HB5 [7, 8, 9, 10, 11, 12, 13, 14, 15, 16, 17, 18, 19, 20, 21, 0] [.int .i64 0, .bool true, .bool true, sv [.n 6 (ax (((sumE1 (fun _ => Z1) (fun _ => 0) 0)).pt)), .n 6 (ay (((sumE1 (fun _ => Z1) (fun _ => 0) 0)).pt)), .b (ai (((sumE1 (fun _ => Z1) (fun _ => 0) 0)).pt))], sv [.n 6 (ax Z1.pt), .n 6 (ay Z1.pt), .b (ai Z1.pt)], .bool true, .bool true, .bool true, sv [.n 6 (ax G1.pt), .n 6 (ay G1.pt), .b (ai G1.pt)], .bool true, .bool true, .bool true, sv [.n 6 (bx0 G2.pt), .n 6 (bx1 G2.pt), .n 6 (by0 G2.pt), .n 6 (by1 G2.pt), .b (bi G2.pt)], .bool true, .bool true, .bool true] ?_ ?_
  · refine stpm ?_
    refine stpx (fun _ _ => ex_eqi rfl rfl _ rfl) ?_
    refine stpm ?_
    refine stpv (fun γ w h => ex_loads 0 3 (m := [.n 6 (ax (((sumE1 (fun _ => Z1) (fun _ => 0) 0)).pt)), .n 6 (ay (((sumE1 (fun _ => Z1) (fun _ => 0) 0)).pt)), .b (ai (((sumE1 (fun _ => Z1) (fun _ => 0) 0)).pt))]) flG1 rfl rfl (A4.keep h.out) rfl rfl) ?_
    refine stpk Tryz.call42 (fun w h => oneZero_p _) ?_
    refine stpx (fun _ _ => ex_eqs gdG1 eqG1 rfl rfl rfl (shG1_of (ax_B (((sumE1 (fun _ => Z1) (fun _ => 0) 0)).pt)) (ay_B (((sumE1 (fun _ => Z1) (fun _ => 0) 0)).pt))) (shG1_of (ax_B Z1.pt) (ay_B Z1.pt)) true (onept_eq _ _ true (by simp [sumE1, Z1]))) ?_
    refine stpx (fun _ _ => ex_pick (r := true) rfl) ?_
    refine stpm ?_
    refine stpk Tryz.call43 (fun w h => oneGen_p _) ?_
    refine stpk Tryz.call25 (fun w h => oneRight_p G1 _) ?_
    refine stpx (fun _ _ => ex_pick (r := true) rfl) ?_
    refine stpm ?_
    refine stpk Tryz.call44 (fun w h => twoGen_p _) ?_
    refine stpk Tryz.call17 (fun w h => twoRight_p G2 _) ?_
    refine stpx (fun _ _ => ex_pick (r := true) rfl) ?_
    exact stpa .nil
  intro w6 hb6 HB8
  exact wpr (ret1 Tryz.results20 (res_tmp rfl)) HB8
end

section
open Go.RowKit Cv
noncomputable def wrBT (X0 X1 Y0 Y1 : Nat → Nat) (I : Nat → Bool) : Nat → Bool
  | 0 => false
  | q + 1 => wrBT X0 X1 Y0 Y1 I q || @decide (¬ RawOk2 (X0 q) (X1 q) (Y0 q) (Y1 q) (I q)) (Classical.propDecidable _)
theorem wr_casesT (X0 X1 Y0 Y1 : Nat → Nat) (I : Nat → Bool) (q : Nat) : wrBT X0 X1 Y0 Y1 I q = true ∨ (wrBT X0 X1 Y0 Y1 I q = false ∧ RawOk2 (X0 q) (X1 q) (Y0 q) (Y1 q) (I q)) ∨ (wrBT X0 X1 Y0 Y1 I q = false ∧ ¬ RawOk2 (X0 q) (X1 q) (Y0 q) (Y1 q) (I q)) := by
  by_cases h : RawOk2 (X0 q) (X1 q) (Y0 q) (Y1 q) (I q)
  · cases wrBT X0 X1 Y0 Y1 I q
    · exact .inr (.inl ⟨rfl, h⟩)
    · exact .inl rfl
  · cases wrBT X0 X1 Y0 Y1 I q
    · exact .inr (.inr ⟨rfl, h⟩)
    · exact .inl rfl
theorem wr_1T {X0 X1 Y0 Y1 : Nat → Nat} {I : Nat → Bool} {q : Nat} (h : wrBT X0 X1 Y0 Y1 I q = true) : wrBT X0 X1 Y0 Y1 I (q + 1) = true := by simp [wrBT, h]
theorem wr_2T {X0 X1 Y0 Y1 : Nat → Nat} {I : Nat → Bool} {q : Nat} (h : wrBT X0 X1 Y0 Y1 I q = false) (hr : RawOk2 (X0 q) (X1 q) (Y0 q) (Y1 q) (I q)) : wrBT X0 X1 Y0 Y1 I (q + 1) = false := by simp [wrBT, h, hr]
theorem wr_3T {X0 X1 Y0 Y1 : Nat → Nat} {I : Nat → Bool} {q : Nat} (h : wrBT X0 X1 Y0 Y1 I q = false) (hr : ¬ RawOk2 (X0 q) (X1 q) (Y0 q) (Y1 q) (I q)) : wrBT X0 X1 Y0 Y1 I (q + 1) = true := by simp [wrBT, h, hr]
theorem wr_noT {X0 X1 Y0 Y1 : Nat → Nat} {I : Nat → Bool} : ∀ {n : Nat}, wrBT X0 X1 Y0 Y1 I n = false → ∀ i, i < n → RawOk2 (X0 i) (X1 i) (Y0 i) (Y1 i) (I i)
  | n + 1, h, i, hi => by
    rcases wr_casesT X0 X1 Y0 Y1 I n with c | ⟨c, hr⟩ | ⟨c, hr⟩
    · rw [wr_1T c] at h; cases h
    · by_cases e : i = n
      · rw [e]; exact hr
      · exact wr_noT c i (by omega)
    · rw [wr_3T c hr] at h; cases h
theorem wr_yesT {X0 X1 Y0 Y1 : Nat → Nat} {I : Nat → Bool} : ∀ {n : Nat}, wrBT X0 X1 Y0 Y1 I n = true → ∃ j, j < n ∧ (∀ i, i < j → RawOk2 (X0 i) (X1 i) (Y0 i) (Y1 i) (I i)) ∧ ¬ RawOk2 (X0 j) (X1 j) (Y0 j) (Y1 j) (I j)
  | 0, h => by cases h
  | n + 1, h => by
    rcases wr_casesT X0 X1 Y0 Y1 I n with c | ⟨c, hr⟩ | ⟨c, hr⟩
    · obtain ⟨j, hj, h1, h2⟩ := wr_yesT c
      exact ⟨j, by omega, h1, h2⟩
    · rw [wr_2T c hr] at h; cases h
    · exact ⟨n, by omega, wr_noT c, hr⟩
theorem ok_pointsT {X0 X1 Y0 Y1 : Nat → Nat} {I : Nat → Bool} {n : Nat} (h : ∀ i, i < n → RawOk2 (X0 i) (X1 i) (Y0 i) (Y1 i) (I i)) : ∃ S : Nat → E2, ∀ i, i < n → rw2T X0 X1 Y0 Y1 I i = pt2 (S i) := by
  have key : ∀ i, ∃ P : E2, i < n → rw2T X0 X1 Y0 Y1 I i = pt2 P := fun i => by
    by_cases hi : i < n
    · obtain ⟨P, h1, h2, h3, h4, h5⟩ := h i hi
      exact ⟨P, fun _ => by show [_, _, _, _, _] = [_, _, _, _, _]; rw [h1, h2, h3, h4, h5]⟩
    · exact ⟨Z2, fun c => absurd c hi⟩
  exact Classical.skolem.1 key
theorem outcomesT (M mk : Nat) (b : Bool) : M ≠ mk ∨ (M = mk ∧ b = false) ∨ (M = mk ∧ b = true) := by
  by_cases h : M = mk
  · cases b
    · exact .inr (.inl ⟨h, rfl⟩)
    · exact .inr (.inr ⟨h, rfl⟩)
  · exact .inl h
theorem ex_ileqST {ρ : Operand → Value} {d : Option Tmp} {ty0 : TypeId} {pos : String} {after : Array Edge} {guard : Option (Nat × Bool)} {w : World} {t t2 : TypeId} {x y : Operand} {k : IntKind} {a b : Int} (hx : ρ x = .int k a) (hy : ρ y = .int k b) (r : Bool) (hr : r = decide (a ≤ b)) :
    (execOp ρ ⟨d, .binOp .leq t x y t2, ty0, pos, after, guard⟩).run Tryz.prog w = .ok (.value (.bool r)) w := by
  subst hr
  simp [execOp, hx, hy, eqGuard, binOp, Op.intCmp]
theorem ex_iminrT {ρ : Operand → Value} {d : Option Tmp} {ty0 : TypeId} {pos : String} {after : Array Edge} {guard : Option (Nat × Bool)} {w : World} {x y : Operand} {tys : Array TypeId} {a b : Int} (hx : ρ x = .int .i64 a) (hy : ρ y = .int .i64 b) (r : Int) (hr : r = min a b) :
    (execOp ρ ⟨d, .call ⟨.builtin .min, #[x, y], tys⟩, ty0, pos, after, guard⟩).run Tryz.prog w = .ok (.value (.int .i64 r)) w := by
  subst hr
  exact ex_imin hx hy
set_option maxRecDepth 20000 in
set_option maxHeartbeats 4000000 in
theorem sumbad_lenT (m mk : Nat) (b : Bool) (hne : m ≠ mk) (w : World) :
    Calls Tryz.prog 19 #[.int .i64 ((m : Nat) : Int), .int .i64 ((mk : Nat) : Int), .bool b] w (Is (.int .i64 3) w) := by
  go_enter Tryz.func19, Tryz.ntmps19
  refine wp_seq (region_0 [6] [.int .i64 0] ?_ ?_)
  · refine stpx (fun _ _ => ex_assign _) ?_
    exact GSteps.nil
  intro w1 hb1
  refine th_r ?_
  have HB2 := below_then (Below.refl w.heap.size w) hb1.out
  refine wp_seq ?_
  refine wp_block ?_
  refine wp_seq (region_0 [8, 9, 10, 7] [.int .i64 ((m : Nat) : Int), .int .i64 ((mk : Nat) : Int), .bool true, .bool true] ?_ ?_)
  · refine stpx (fun _ _ => ex_move _) ?_
    refine stpx (fun _ _ => ex_move _) ?_
    refine stpx (fun _ _ => ex_neqi rfl rfl true (by simp; omega)) ?_
    refine stpx (fun _ _ => ex_assign _) ?_
    exact GSteps.nil
  intro w3 hb3
  refine th_r ?_
  have HB4 := below_then HB2 hb3.out
  refine wp_cond_true rfl ?_
  refine wp_seq (region_0 [6] [.int .i64 3] ?_ ?_)
  · refine stpx (fun _ _ => ex_assign _) ?_
    exact GSteps.nil
  intro w5 hb5
  refine th_r ?_
  have HB6 := below_then HB4 hb5.out
  exact wp_ret (bk_r (th_ret (bodyPost_ret (ret1 Tryz.results19 (res_tmp rfl)) rfl ⟨rfl, HB6⟩)))
set_option maxRecDepth 20000 in
set_option maxHeartbeats 4000000 in
theorem sumbad_longT (m : Nat) (b : Bool) (hl : 4096 < m) (w : World) :
    Calls Tryz.prog 19 #[.int .i64 ((m : Nat) : Int), .int .i64 ((m : Nat) : Int), .bool b] w (Is (.int .i64 2) w) := by
  go_enter Tryz.func19, Tryz.ntmps19
  refine wp_seq (region_0 [6] [.int .i64 0] ?_ ?_)
  · refine stpx (fun _ _ => ex_assign _) ?_
    exact GSteps.nil
  intro w1 hb1
  refine th_r ?_
  have HB2 := below_then (Below.refl w.heap.size w) hb1.out
  refine wp_seq ?_
  refine wp_block ?_
  refine wp_seq (region_0 [8, 9, 10, 7] [.int .i64 ((m : Nat) : Int), .int .i64 ((m : Nat) : Int), .bool false, .bool false] ?_ ?_)
  · refine stpx (fun _ _ => ex_move _) ?_
    refine stpx (fun _ _ => ex_move _) ?_
    refine stpx (fun _ _ => ex_neqi rfl rfl false (by simp)) ?_
    refine stpx (fun _ _ => ex_assign _) ?_
    exact GSteps.nil
  intro w3 hb3
  refine th_r ?_
  have HB4 := below_then HB2 hb3.out
  refine wp_cond_false rfl ?_
  refine wp_seq (region_0 [12, 13, 11] [.int .i64 ((m : Nat) : Int), .bool true, .bool true] ?_ ?_)
  · refine stpx (fun _ _ => ex_move _) ?_
    refine stpx (fun _ _ => ex_igtr rfl rfl true (by rw [eq_comm, decide_eq_true_eq]; omega)) ?_
    refine stpx (fun _ _ => ex_assign _) ?_
    exact GSteps.nil
  intro w5 hb5
  refine th_r ?_
  have HB6 := below_then HB4 hb5.out
  refine wp_cond_true rfl ?_
  refine wp_seq (region_0 [6] [.int .i64 2] ?_ ?_)
  · refine stpx (fun _ _ => ex_assign _) ?_
    exact GSteps.nil
  intro w7 hb7
  refine th_r ?_
  have HB8 := below_then HB6 hb7.out
  exact wp_ret (bk_r (th_ret (bodyPost_ret (ret1 Tryz.results19 (res_tmp rfl)) rfl ⟨rfl, HB8⟩)))
set_option maxRecDepth 20000 in
set_option maxHeartbeats 4000000 in
theorem sumbad_curveT (m : Nat) (hm : m ≤ 4096) (w : World) :
    Calls Tryz.prog 19 #[.int .i64 ((m : Nat) : Int), .int .i64 ((m : Nat) : Int), .bool true] w (Is (.int .i64 30) w) := by
  go_enter Tryz.func19, Tryz.ntmps19
  refine wp_seq (region_0 [6] [.int .i64 0] ?_ ?_)
  · refine stpx (fun _ _ => ex_assign _) ?_
    exact GSteps.nil
  intro w1 hb1
  refine th_r ?_
  have HB2 := below_then (Below.refl w.heap.size w) hb1.out
  refine wp_seq ?_
  refine wp_block ?_
  refine wp_seq (region_0 [8, 9, 10, 7] [.int .i64 ((m : Nat) : Int), .int .i64 ((m : Nat) : Int), .bool false, .bool false] ?_ ?_)
  · refine stpx (fun _ _ => ex_move _) ?_
    refine stpx (fun _ _ => ex_move _) ?_
    refine stpx (fun _ _ => ex_neqi rfl rfl false (by simp)) ?_
    refine stpx (fun _ _ => ex_assign _) ?_
    exact GSteps.nil
  intro w3 hb3
  refine th_r ?_
  have HB4 := below_then HB2 hb3.out
  refine wp_cond_false rfl ?_
  refine wp_seq (region_0 [12, 13, 11] [.int .i64 ((m : Nat) : Int), .bool false, .bool false] ?_ ?_)
  · refine stpx (fun _ _ => ex_move _) ?_
    refine stpx (fun _ _ => ex_igtr rfl rfl false (by rw [eq_comm, decide_eq_false_iff_not]; omega)) ?_
    refine stpx (fun _ _ => ex_assign _) ?_
    exact GSteps.nil
  intro w5 hb5
  refine th_r ?_
  have HB6 := below_then HB4 hb5.out
  refine wp_cond_false rfl ?_
  refine wp_seq (region_0 [15, 14] [.bool true, .bool true] ?_ ?_)
  · refine stpx (fun _ _ => ex_move _) ?_
    refine stpx (fun _ _ => ex_assign _) ?_
    exact GSteps.nil
  intro w7 hb7
  refine th_r ?_
  have HB8 := below_then HB6 hb7.out
  refine wp_cond_true rfl ?_
  refine wp_seq (region_0 [6] [.int .i64 30] ?_ ?_)
  · refine stpx (fun _ _ => ex_assign _) ?_
    exact GSteps.nil
  intro w9 hb9
  refine th_r ?_
  have HB10 := below_then HB8 hb9.out
  exact wp_ret (bk_r (th_ret (bodyPost_ret (ret1 Tryz.results19 (res_tmp rfl)) rfl ⟨rfl, HB10⟩)))
set_option maxRecDepth 20000 in
set_option maxHeartbeats 4000000 in
theorem sumbad_okT (m : Nat) (hm : m ≤ 4096) (w : World) :
    Calls Tryz.prog 19 #[.int .i64 ((m : Nat) : Int), .int .i64 ((m : Nat) : Int), .bool false] w (Is (.int .i64 0) w) := by
  go_enter Tryz.func19, Tryz.ntmps19
  refine wp_seq (region_0 [6] [.int .i64 0] ?_ ?_)
  · refine stpx (fun _ _ => ex_assign _) ?_
    exact GSteps.nil
  intro w1 hb1
  refine th_r ?_
  have HB2 := below_then (Below.refl w.heap.size w) hb1.out
  refine wp_seq ?_
  refine wp_block ?_
  refine wp_seq (region_0 [8, 9, 10, 7] [.int .i64 ((m : Nat) : Int), .int .i64 ((m : Nat) : Int), .bool false, .bool false] ?_ ?_)
  · refine stpx (fun _ _ => ex_move _) ?_
    refine stpx (fun _ _ => ex_move _) ?_
    refine stpx (fun _ _ => ex_neqi rfl rfl false (by simp)) ?_
    refine stpx (fun _ _ => ex_assign _) ?_
    exact GSteps.nil
  intro w3 hb3
  refine th_r ?_
  have HB4 := below_then HB2 hb3.out
  refine wp_cond_false rfl ?_
  refine wp_seq (region_0 [12, 13, 11] [.int .i64 ((m : Nat) : Int), .bool false, .bool false] ?_ ?_)
  · refine stpx (fun _ _ => ex_move _) ?_
    refine stpx (fun _ _ => ex_igtr rfl rfl false (by rw [eq_comm, decide_eq_false_iff_not]; omega)) ?_
    refine stpx (fun _ _ => ex_assign _) ?_
    exact GSteps.nil
  intro w5 hb5
  refine th_r ?_
  have HB6 := below_then HB4 hb5.out
  refine wp_cond_false rfl ?_
  refine wp_seq (region_0 [15, 14] [.bool false, .bool false] ?_ ?_)
  · refine stpx (fun _ _ => ex_move _) ?_
    refine stpx (fun _ _ => ex_assign _) ?_
    exact GSteps.nil
  intro w7 hb7
  refine th_r ?_
  have HB8 := below_then HB6 hb7.out
  refine wp_cond_false rfl ?_
  refine wp_skip ?_
  refine bk_n ?_
  refine th_r ?_
  refine wp_seq (region_0 [6] [.int .i64 0] ?_ ?_)
  · refine stpx (fun _ _ => ex_assign _) ?_
    exact GSteps.nil
  intro w9 hb9
  refine th_r ?_
  have HB10 := below_then HB8 hb9.out
  exact wp_ret (bodyPost_ret (ret1 Tryz.results19 (res_tmp rfl)) rfl ⟨rfl, HB10⟩)
set_option maxRecDepth 20000 in
set_option maxHeartbeats 4000000 in
theorem sumTwos_smallT (m mk : Nat) (ap ak : Option Addr) (cp ck : Nat) (hmc : m ≤ cp) (hs : m ≤ 20) (X0 X1 Y0 Y1 : Nat → Nat) (I : Nat → Bool) (hXY : ∀ i, i < m → X0 i < fpB ∧ X1 i < fpB ∧ Y0 i < fpB ∧ Y1 i < fpB) (A : Nat → Nat) (HA : ∀ i, i < mk → A i < frB) (w : World) (HP : Row w ap 25 m (rw2T X0 X1 Y0 Y1 I)) (HK : Row w ak 4 mk (fun i => [.n 4 (A i)])) :
    Calls Tryz.prog 4 #[.slice ap m cp, .slice ak mk ck] w (Is (.bool true) w) := by
  have hmin : ((m : Nat) : Int) = min ((m : Nat) : Int) 4096 := by omega
  go_enter Tryz.func4, Tryz.ntmps4
  refine wp_seq (region_0 [4] [.bool false] ?_ ?_)
  · refine stpx (fun _ _ => ex_assign _) ?_
    exact GSteps.nil
  intro w1 hb1
  refine th_r ?_
  have HB2 := below_then (Below.refl w.heap.size w) hb1.out
  refine wp_seq ?_
  refine wp_seq (region_0 [18, 19, 20, 21, 22, 23, 24, 25] [.slice ap m cp, .int .i64 ((m : Nat) : Int), .bool false, .bool false, undef, undef, undef, .bool false] ?_ ?_)
  · refine stpx (fun _ _ => ex_move _) ?_
    refine stpx (fun _ _ => ex_lenR slP2 (m := m) rfl) ?_
    refine stpx (fun _ _ => ex_igtr rfl rfl false (by rw [eq_comm, decide_eq_false_iff_not]; omega)) ?_
    refine stpx (fun _ _ => ex_move _) ?_
    refine stps ?_
    refine stps ?_
    refine stps ?_
    refine stpx (fun _ _ => ex_pick (r := false) rfl) ?_
    exact GSteps.nil
  intro w3 hb3
  refine th_r ?_
  have HB4 := below_then HB2 hb3.out
  refine wp_cond_false rfl ?_
  refine wp_skip ?_
  refine th_r ?_
  refine wp_seq (region_0 [5] [.bool false] ?_ ?_)
  · refine stpx (fun _ _ => ex_assign _) ?_
    exact GSteps.nil
  intro w5 hb5
  refine th_r ?_
  have HB6 := below_then HB4 hb5.out
  refine wp_seq ?_
  refine wp_seq (region_0 [28, 29, 30, 31, 32, 33, 34] [.slice ap m cp, .slice ap m cp, .int .i64 ((m : Nat) : Int), .int .i64 ((m : Nat) : Int), .slice ap m cp, .int .i64 ((m : Nat) : Int), .int .i64 0] ?_ ?_)
  · refine stpx (fun _ _ => ex_move _) ?_
    refine stpx (fun _ _ => ex_move _) ?_
    refine stpx (fun _ _ => ex_lenR slP2 (m := m) rfl) ?_
    refine stpx (fun _ _ => ex_iminrT rfl rfl _ hmin) ?_
    refine stpx (fun _ _ => ex_cutNT slP2 (a := ap) (m := m) (c := cp) (k := m) rfl rfl (by omega)) ?_
    refine stpx (fun _ _ => ex_lenR slP2 (m := m) rfl) ?_
    refine stpx (fun _ _ => ex_move _) ?_
    exact GSteps.nil
  intro w7 hb7
  refine th_r ?_
  have HB8 := below_then HB6 hb7.out
  refine wp_block ?_
  refine wp_loop_by (m) (fun q_ a_ v_ => ∃ j7 j35 j36 j37 j38 j39 j40 j41 j42 j43 j44 : Value, a_ = ⟨List.toArray ((.slice ap m cp) :: (.slice ak mk ck) :: undef :: undef :: (.bool false) :: (.bool ((wrBT X0 X1 Y0 Y1 I q_))) :: undef :: j7 :: undef :: undef :: undef :: undef :: undef :: undef :: undef :: undef :: undef :: undef :: (.slice ap m cp) :: (.int .i64 ((m : Nat) : Int)) :: (.bool false) :: (.bool false) :: undef :: undef :: undef :: (.bool false) :: undef :: undef :: (.slice ap m cp) :: (.slice ap m cp) :: (.int .i64 ((m : Nat) : Int)) :: (.int .i64 ((m : Nat) : Int)) :: (.slice ap m cp) :: (.int .i64 ((m : Nat) : Int)) :: (.int .i64 ((q_ : Nat) : Int)) :: j35 :: j36 :: j37 :: j38 :: j39 :: j40 :: j41 :: j42 :: j43 :: j44 :: undef :: undef :: undef :: undef :: undef :: undef :: undef :: undef :: undef :: undef :: undef :: undef :: undef :: undef :: undef :: undef :: undef :: undef :: undef :: undef :: undef :: undef :: undef :: undef :: undef :: undef :: undef :: undef :: undef :: undef :: undef :: undef :: undef :: undef :: undef :: undef :: undef :: undef :: undef :: undef :: undef :: undef :: undef :: undef :: undef :: undef :: undef :: undef :: undef :: undef :: undef :: undef :: undef :: undef :: undef :: undef :: undef :: undef :: undef :: undef :: undef :: undef :: undef :: undef :: undef :: undef :: []), []⟩ ∧ Below w.heap.size w v_) ⟨_, _, _, _, _, _, _, _, _, _, _, rfl, HB8⟩ ?_ ?_
  · intro k9 hk9
    rintro _ w9 ⟨i9_7, i9_35, i9_36, i9_37, i9_38, i9_39, i9_40, i9_41, i9_42, i9_43, i9_44, rfl, HB9⟩ K9 hK9
    have hq := hk9
    have hqm : k9 < m := by omega
    refine wp_seq (region_0 [35] [.bool true] ?_ ?_)
    · refine stpx (fun _ _ => ex_ilss rfl rfl true (by rw [eq_comm, decide_eq_true_eq]; omega)) ?_
      exact GSteps.nil
    intro w10 hb10
    refine th_r ?_
    have HB11 := below_then HB9 hb10.out
    refine wp_seq ?_
    refine wp_cond_true rfl ?_
    refine wp_skip ?_
    refine th_r ?_
    refine wp_seq ?_
    refine wp_block ?_
    obtain ⟨g12, o12, ha12, lg12, hr12⟩ := (HP.keep HB11) k9 hqm
    skip
    · refine wp_seq (region_c 1 (fun _ => 30) (fun _ => 2) (fun _ => 3) (fun _ => segs [.n 6 0, .n 6 0, .n 6 0, .n 6 0, .b false]) (fun _ => segs [.n 6 ((X0 k9)), .n 6 ((X1 k9)), .n 6 ((Y0 k9)), .n 6 ((Y1 k9)), .b ((I k9))]) [36, 37, 7] (fun γ => [.pointer (some ⟨g12, o12 + 25 * k9, none⟩), sv [.n 6 ((X0 k9)), .n 6 ((X1 k9)), .n 6 ((Y0 k9)), .n 6 ((Y1 k9)), .b ((I k9))], .pointer (some ⟨γ 0, 0, none⟩)]) ?_ ?_)
      · refine stpx (fun _ _ => ex_idxR slP2 (a := ap) (m := m) (c := cp) (i := k9) rfl ha12 rfl hq) ?_
        refine stpv (fun γ w h => ex_loadR (l := [.n 6 ((X0 k9)), .n 6 ((X1 k9)), .n 6 ((Y0 k9)), .n 6 ((Y1 k9)), .b ((I k9))]) flG2 rfl rfl (range_keep lg12 h.out hr12)) ?_
        refine GSteps.cons (gm_new 0 rfl (fun _ => rfl) (fun _ _ => rfl) (fun γ w => ex_allocs (l := [.n 6 0, .n 6 0, .n 6 0, .n 6 0, .b false]) zG2) rfl (by kernel_rfl)) ?_
        refine GSteps.cons (gm_store 0 rfl rfl (fun _ => rfl) (len_segs (l := [.n 6 ((X0 k9)), .n 6 ((X1 k9)), .n 6 ((Y0 k9)), .n 6 ((Y1 k9)), .b ((I k9))]) (l' := [.n 6 0, .n 6 0, .n 6 0, .n 6 0, .b false]) rfl) (fun γ w h => ex_stores 0 5 (l := [.n 6 0, .n 6 0, .n 6 0, .n 6 0, .b false]) (m := [.n 6 ((X0 k9)), .n 6 ((X1 k9)), .n 6 ((Y0 k9)), .n 6 ((Y1 k9)), .b ((I k9))]) flG2.2 rfl rfl rfl rfl h rfl rfl) rfl rfl (by kernel_rfl)) ?_
        exact GSteps.nil
      intro γ13 w13 hb13 hB13 _
      refine th_r ?_
      have A14 : SB 30 w13 (γ13 0) [.n 6 ((X0 k9)), .n 6 ((X1 k9)), .n 6 ((Y0 k9)), .n 6 ((Y1 k9)), .b ((I k9))] := (hB13 0 (by decide)).2
      have le14 := (hB13 0 (by decide)).1
      have HB15 := below_then HB11 hb13.out
      rcases wr_casesT X0 X1 Y0 Y1 I k9 with hw | ⟨hw, hr⟩ | ⟨hw, hr⟩
      · rw [hw]
        refine wp_region_lit ?_
        refine sv1 (.bool true) (ex_move _) ?_
        refine sv1 (.bool true) (ex_move _) ?_
        refine sq_skip (a' := ⟨List.toArray ((.slice ap m cp) :: (.slice ak mk ck) :: undef :: undef :: (.bool false) :: (.bool true) :: undef :: (.pointer (some ⟨(γ13 0), 0, none⟩)) :: undef :: undef :: undef :: undef :: undef :: undef :: undef :: undef :: undef :: undef :: (.slice ap m cp) :: (.int .i64 ((m : Nat) : Int)) :: (.bool false) :: (.bool false) :: undef :: undef :: undef :: (.bool false) :: undef :: undef :: (.slice ap m cp) :: (.slice ap m cp) :: (.int .i64 ((m : Nat) : Int)) :: (.int .i64 ((m : Nat) : Int)) :: (.slice ap m cp) :: (.int .i64 ((m : Nat) : Int)) :: (.int .i64 ((k9 : Nat) : Int)) :: (.bool true) :: (.pointer (some ⟨g12, o12 + 25 * k9, none⟩)) :: (sv [.n 6 ((X0 k9)), .n 6 ((X1 k9)), .n 6 ((Y0 k9)), .n 6 ((Y1 k9)), .b ((I k9))]) :: (.bool true) :: (.bool true) :: undef :: i9_41 :: i9_42 :: i9_43 :: i9_44 :: undef :: undef :: undef :: undef :: undef :: undef :: undef :: undef :: undef :: undef :: undef :: undef :: undef :: undef :: undef :: undef :: undef :: undef :: undef :: undef :: undef :: undef :: undef :: undef :: undef :: undef :: undef :: undef :: undef :: undef :: undef :: undef :: undef :: undef :: undef :: undef :: undef :: undef :: undef :: undef :: undef :: undef :: undef :: undef :: undef :: undef :: undef :: undef :: undef :: undef :: undef :: undef :: undef :: undef :: undef :: undef :: undef :: undef :: undef :: undef :: undef :: undef :: undef :: undef :: undef :: undef :: []), []⟩) rfl rfl ?_
        refine sq_skip (a' := ⟨List.toArray ((.slice ap m cp) :: (.slice ak mk ck) :: undef :: undef :: (.bool false) :: (.bool true) :: undef :: (.pointer (some ⟨(γ13 0), 0, none⟩)) :: undef :: undef :: undef :: undef :: undef :: undef :: undef :: undef :: undef :: undef :: (.slice ap m cp) :: (.int .i64 ((m : Nat) : Int)) :: (.bool false) :: (.bool false) :: undef :: undef :: undef :: (.bool false) :: undef :: undef :: (.slice ap m cp) :: (.slice ap m cp) :: (.int .i64 ((m : Nat) : Int)) :: (.int .i64 ((m : Nat) : Int)) :: (.slice ap m cp) :: (.int .i64 ((m : Nat) : Int)) :: (.int .i64 ((k9 : Nat) : Int)) :: (.bool true) :: (.pointer (some ⟨g12, o12 + 25 * k9, none⟩)) :: (sv [.n 6 ((X0 k9)), .n 6 ((X1 k9)), .n 6 ((Y0 k9)), .n 6 ((Y1 k9)), .b ((I k9))]) :: (.bool true) :: (.bool true) :: undef :: undef :: i9_42 :: i9_43 :: i9_44 :: undef :: undef :: undef :: undef :: undef :: undef :: undef :: undef :: undef :: undef :: undef :: undef :: undef :: undef :: undef :: undef :: undef :: undef :: undef :: undef :: undef :: undef :: undef :: undef :: undef :: undef :: undef :: undef :: undef :: undef :: undef :: undef :: undef :: undef :: undef :: undef :: undef :: undef :: undef :: undef :: undef :: undef :: undef :: undef :: undef :: undef :: undef :: undef :: undef :: undef :: undef :: undef :: undef :: undef :: undef :: undef :: undef :: undef :: undef :: undef :: undef :: undef :: undef :: undef :: undef :: undef :: []), []⟩) rfl rfl ?_
        refine sq_skip (a' := ⟨List.toArray ((.slice ap m cp) :: (.slice ak mk ck) :: undef :: undef :: (.bool false) :: (.bool true) :: undef :: (.pointer (some ⟨(γ13 0), 0, none⟩)) :: undef :: undef :: undef :: undef :: undef :: undef :: undef :: undef :: undef :: undef :: (.slice ap m cp) :: (.int .i64 ((m : Nat) : Int)) :: (.bool false) :: (.bool false) :: undef :: undef :: undef :: (.bool false) :: undef :: undef :: (.slice ap m cp) :: (.slice ap m cp) :: (.int .i64 ((m : Nat) : Int)) :: (.int .i64 ((m : Nat) : Int)) :: (.slice ap m cp) :: (.int .i64 ((m : Nat) : Int)) :: (.int .i64 ((k9 : Nat) : Int)) :: (.bool true) :: (.pointer (some ⟨g12, o12 + 25 * k9, none⟩)) :: (sv [.n 6 ((X0 k9)), .n 6 ((X1 k9)), .n 6 ((Y0 k9)), .n 6 ((Y1 k9)), .b ((I k9))]) :: (.bool true) :: (.bool true) :: undef :: undef :: undef :: i9_43 :: i9_44 :: undef :: undef :: undef :: undef :: undef :: undef :: undef :: undef :: undef :: undef :: undef :: undef :: undef :: undef :: undef :: undef :: undef :: undef :: undef :: undef :: undef :: undef :: undef :: undef :: undef :: undef :: undef :: undef :: undef :: undef :: undef :: undef :: undef :: undef :: undef :: undef :: undef :: undef :: undef :: undef :: undef :: undef :: undef :: undef :: undef :: undef :: undef :: undef :: undef :: undef :: undef :: undef :: undef :: undef :: undef :: undef :: undef :: undef :: undef :: undef :: undef :: undef :: undef :: undef :: undef :: undef :: []), []⟩) rfl rfl ?_
        refine sv1 (.bool true) (ex_pick (r := true) rfl) ?_
        refine sv1 (.bool true) (ex_assign _) ?_
        refine wpList_nil ?_
        refine bk_n ?_
        refine th_r ?_
        refine wp_region_lit ?_
        refine sv1 (.int .i64 ((k9 + 1 : Nat) : Int)) (ex_iadd rfl rfl ((k9 + 1 : Nat) : Int) (cnt_up (by omega))) ?_
        refine sv1 (.int .i64 ((k9 + 1 : Nat) : Int)) (ex_move _) ?_
        refine wpList_nil ?_
        refine th_r ?_
        exact hK9.out _ _ ⟨_, _, _, _, _, _, _, _, _, _, _, (by rw [wr_1T hw]), HB15⟩
      · rw [hw]
        refine wp_region_lit ?_
        refine sv1 (.bool false) (ex_move _) ?_
        refine sv1 (.bool false) (ex_move _) ?_
        refine sv1 (sv [.n 6 ((X0 k9)), .n 6 ((X1 k9)), .n 6 ((Y0 k9)), .n 6 ((Y1 k9)), .b ((I k9))]) (ex_loads 0 5 (m := [.n 6 ((X0 k9)), .n 6 ((X1 k9)), .n 6 ((Y0 k9)), .n 6 ((Y1 k9)), .b ((I k9))]) flG2 rfl rfl A14 rfl rfl) ?_
        refine sc1 (.bool true) (ex_call (vs := [sv [.n 6 ((X0 k9)), .n 6 ((X1 k9)), .n 6 ((Y0 k9)), .n 6 ((Y1 k9)), .b ((I k9))]]) rfl Tryz.call17 rfl) (twoRight_okT hr _) ?_
        intro w23 hb23
        have A24 := A14.keep hb23
        have HB25 := below_then HB15 hb23
        refine sv1 (.bool false) (ex_not (r := true) rfl) ?_
        refine sv1 (.bool false) (ex_pick (r := false) rfl) ?_
        refine sv1 (.bool false) (ex_assign _) ?_
        refine wpList_nil ?_
        refine bk_n ?_
        refine th_r ?_
        refine wp_region_lit ?_
        refine sv1 (.int .i64 ((k9 + 1 : Nat) : Int)) (ex_iadd rfl rfl ((k9 + 1 : Nat) : Int) (cnt_up (by omega))) ?_
        refine sv1 (.int .i64 ((k9 + 1 : Nat) : Int)) (ex_move _) ?_
        refine wpList_nil ?_
        refine th_r ?_
        exact hK9.out _ _ ⟨_, _, _, _, _, _, _, _, _, _, _, (by rw [wr_2T hw hr]), HB25⟩
      · rw [hw]
        refine wp_region_lit ?_
        refine sv1 (.bool false) (ex_move _) ?_
        refine sv1 (.bool false) (ex_move _) ?_
        refine sv1 (sv [.n 6 ((X0 k9)), .n 6 ((X1 k9)), .n 6 ((Y0 k9)), .n 6 ((Y1 k9)), .b ((I k9))]) (ex_loads 0 5 (m := [.n 6 ((X0 k9)), .n 6 ((X1 k9)), .n 6 ((Y0 k9)), .n 6 ((Y1 k9)), .b ((I k9))]) flG2 rfl rfl A14 rfl rfl) ?_
        refine sc1 (.bool false) (ex_call (vs := [sv [.n 6 ((X0 k9)), .n 6 ((X1 k9)), .n 6 ((Y0 k9)), .n 6 ((Y1 k9)), .b ((I k9))]]) rfl Tryz.call17 rfl) (twoRight_no (hXY k9 hqm).1 (hXY k9 hqm).2.1 (hXY k9 hqm).2.2.1 (hXY k9 hqm).2.2.2 hr _) ?_
        intro w32 hb32
        have A33 := A14.keep hb32
        have HB34 := below_then HB15 hb32
        refine sv1 (.bool true) (ex_not (r := false) rfl) ?_
        refine sv1 (.bool true) (ex_pick (r := false) rfl) ?_
        refine sv1 (.bool true) (ex_assign _) ?_
        refine wpList_nil ?_
        refine bk_n ?_
        refine th_r ?_
        refine wp_region_lit ?_
        refine sv1 (.int .i64 ((k9 + 1 : Nat) : Int)) (ex_iadd rfl rfl ((k9 + 1 : Nat) : Int) (cnt_up (by omega))) ?_
        refine sv1 (.int .i64 ((k9 + 1 : Nat) : Int)) (ex_move _) ?_
        refine wpList_nil ?_
        refine th_r ?_
        exact hK9.out _ _ ⟨_, _, _, _, _, _, _, _, _, _, _, (by rw [wr_3T hw hr]), HB34⟩
  · rintro _ w38 ⟨i38_7, i38_35, i38_36, i38_37, i38_38, i38_39, i38_40, i38_41, i38_42, i38_43, i38_44, rfl, HB38⟩ K38
    refine wp_seq (region_0 [35] [.bool false] ?_ ?_)
    · refine stpx (fun _ _ => ex_ilss rfl rfl false (by rw [eq_comm, decide_eq_false_iff_not]; omega)) ?_
      exact GSteps.nil
    intro w39 hb39
    refine th_r ?_
    have HB40 := below_then HB38 hb39.out
    refine wp_seq ?_
    refine wp_cond_false rfl ?_
    refine wp_exit (th_e (th_e (bk_e ?_)))
    refine th_r ?_
    rcases outcomesT m mk (wrBT X0 X1 Y0 Y1 I m) with hne | ⟨he, hw⟩ | ⟨he, hw⟩
    · refine wp_seq (region_c 1 (fun _ => 30) (fun _ => 6) (fun _ => 7) (fun _ => segs [.n 6 0, .n 6 0, .n 6 0, .n 6 0, .b false]) (fun _ => segs [.n 6 0, .n 6 0, .n 6 0, .n 6 0, .b false]) [46, 47, 48, 45, 49, 50, 8, 9] (fun γ => [.slice ap m cp, .slice ak mk ck, .tuple #[sv [.n 6 0, .n 6 0, .n 6 0, .n 6 0, .b false], .int .i64 3], .tuple #[sv [.n 6 0, .n 6 0, .n 6 0, .n 6 0, .b false], .int .i64 3], sv [.n 6 0, .n 6 0, .n 6 0, .n 6 0, .b false], .int .i64 3, .pointer (some ⟨γ 0, 0, none⟩), .int .i64 3]) ?_ ?_)
      · refine stpx (fun _ _ => ex_move _) ?_
        refine stpx (fun _ _ => ex_move _) ?_
        refine stpc (.tuple #[sv [.n 6 0, .n 6 0, .n 6 0, .n 6 0, .b false], .int .i64 3]) (fun γ w => ex_call (vs := [.slice ap m cp, .slice ak mk ck]) rfl Tryz.call18 rfl) (fun w h => sumErr2_lenT m mk ap ak cp ck hne _) ?_
        refine stpx (fun _ _ => ex_move _) ?_
        refine stpx (fun _ _ => ex_extract (vs := [sv [.n 6 0, .n 6 0, .n 6 0, .n 6 0, .b false], .int .i64 3]) rfl rfl) ?_
        refine stpx (fun _ _ => ex_extract (vs := [sv [.n 6 0, .n 6 0, .n 6 0, .n 6 0, .b false], .int .i64 3]) rfl rfl) ?_
        refine GSteps.cons (gm_new 0 rfl (fun _ => rfl) (fun _ _ => rfl) (fun γ w => ex_allocs (l := [.n 6 0, .n 6 0, .n 6 0, .n 6 0, .b false]) zG2) rfl (by kernel_rfl)) ?_
        refine GSteps.cons (gm_store 0 rfl rfl (fun _ => rfl) (len_segs (l := [.n 6 0, .n 6 0, .n 6 0, .n 6 0, .b false]) (l' := [.n 6 0, .n 6 0, .n 6 0, .n 6 0, .b false]) rfl) (fun γ w h => ex_stores 0 5 (l := [.n 6 0, .n 6 0, .n 6 0, .n 6 0, .b false]) (m := [.n 6 0, .n 6 0, .n 6 0, .n 6 0, .b false]) flG2.2 rfl rfl rfl rfl h rfl rfl) rfl rfl (by kernel_rfl)) ?_
        refine stpx (fun _ _ => ex_assign _) ?_
        exact GSteps.nil
      intro γ41 w41 hb41 hB41 _
      refine th_r ?_
      have A42 : SB 30 w41 (γ41 0) [.n 6 0, .n 6 0, .n 6 0, .n 6 0, .b false] := (hB41 0 (by decide)).2
      have le42 := (hB41 0 (by decide)).1
      have HB43 := below_then HB40 hb41.out
      refine wp_seq ?_
      refine wp_seq (region_0 [51, 52, 53, 54, 55, 56, 10] [.slice ap m cp, .int .i64 ((m : Nat) : Int), .slice ak mk ck, .int .i64 ((mk : Nat) : Int), .bool ((wrBT X0 X1 Y0 Y1 I m)), .int .i64 3, .int .i64 3] ?_ ?_)
      · refine stpx (fun _ _ => ex_move _) ?_
        refine stpx (fun _ _ => ex_lenR slP2 (m := m) rfl) ?_
        refine stpx (fun _ _ => ex_move _) ?_
        refine stpx (fun _ _ => ex_lenR slR2 (m := mk) rfl) ?_
        refine stpx (fun _ _ => ex_move _) ?_
        refine stpc (.int .i64 3) (fun γ w => ex_call (vs := [.int .i64 ((m : Nat) : Int), .int .i64 ((mk : Nat) : Int), .bool ((wrBT X0 X1 Y0 Y1 I m))]) rfl Tryz.call19 rfl) (fun w h => sumbad_lenT m mk (wrBT X0 X1 Y0 Y1 I m) hne _) ?_
        refine stpx (fun _ _ => ex_assign _) ?_
        exact GSteps.nil
      intro w44 hb44
      refine th_r ?_
      have A45 := A42.keep hb44.out
      have HB46 := below_then HB43 hb44.out
      refine wp_seq (region_0 [57, 58] [.int .i64 3, .bool true] ?_ ?_)
      · refine stpx (fun _ _ => ex_move _) ?_
        refine stpx (fun _ _ => ex_neqi rfl rfl _ rfl) ?_
        exact GSteps.nil
      intro w47 hb47
      refine th_r ?_
      have A48 := A45.keep hb47.out
      have HB49 := below_then HB46 hb47.out
      refine wp_cond_true rfl ?_
      refine wp_seq (region_0 [59, 60, 61, 62, 63, 64, 65, 66, 67, 68, 69, 4] [.bool true, .bool true, .int .i64 3, .int .i64 3, .bool true, .bool true, .bool true, sv [.n 6 0, .n 6 0, .n 6 0, .n 6 0, .b false], sv [.n 6 0, .n 6 0, .n 6 0, .n 6 0, .b false], .bool true, .bool true, .bool true] ?_ ?_)
      · refine stpc (.bool true) (fun γ w => ex_call (vs := []) rfl Tryz.call20 rfl) (fun w h => sumalive_v _) ?_
        refine stpx (fun _ _ => ex_move _) ?_
        refine stpx (fun _ _ => ex_move _) ?_
        refine stpx (fun _ _ => ex_move _) ?_
        refine stpx (fun _ _ => ex_eqi rfl rfl _ rfl) ?_
        refine stpx (fun _ _ => ex_pick (r := true) rfl) ?_
        refine stpx (fun _ _ => ex_move _) ?_
        refine stpv (fun γ w h => ex_loads 0 5 (m := [.n 6 0, .n 6 0, .n 6 0, .n 6 0, .b false]) flG2 rfl rfl (A48.keep h.out) rfl rfl) ?_
        refine stpx (fun _ _ => ex_builds stG2 (l := [.n 6 0, .n 6 0, .n 6 0, .n 6 0, .b false]) (vs := []) rfl rfl) ?_
        refine stpx (fun _ _ => ex_eqs gdG2 eqG2 rfl rfl rfl (shG2_of zero_B zero_B zero_B zero_B) (shG2_of zero_B zero_B zero_B zero_B) true (by simp)) ?_
        refine stpx (fun _ _ => ex_pick (r := true) rfl) ?_
        refine stpx (fun _ _ => ex_assign _) ?_
        exact GSteps.nil
      intro w50 hb50
      refine th_r ?_
      have A51 := A48.keep hb50.out
      have HB52 := below_then HB49 hb50.out
      exact wp_ret (th_ret (bodyPost_ret (ret1 Tryz.results4 (res_tmp rfl)) rfl ⟨rfl, HB52⟩))
    · subst he
      rw [hw]
      obtain ⟨S, hS⟩ := ok_pointsT (wr_noT hw)
      have HS : Row w ap 25 m (fun i => pt2 (S i)) := (HP.less (by omega)).ext hS
      refine wp_seq (region_c 1 (fun _ => 30) (fun _ => 6) (fun _ => 7) (fun _ => segs [.n 6 0, .n 6 0, .n 6 0, .n 6 0, .b false]) (fun _ => segs [.n 6 (bx0 (((sumE2 S A m)).pt)), .n 6 (bx1 (((sumE2 S A m)).pt)), .n 6 (by0 (((sumE2 S A m)).pt)), .n 6 (by1 (((sumE2 S A m)).pt)), .b (bi (((sumE2 S A m)).pt))]) [46, 47, 48, 45, 49, 50, 8, 9] (fun γ => [.slice ap m cp, .slice ak m ck, .tuple #[sv [.n 6 (bx0 (((sumE2 S A m)).pt)), .n 6 (bx1 (((sumE2 S A m)).pt)), .n 6 (by0 (((sumE2 S A m)).pt)), .n 6 (by1 (((sumE2 S A m)).pt)), .b (bi (((sumE2 S A m)).pt))], .int .i64 0], .tuple #[sv [.n 6 (bx0 (((sumE2 S A m)).pt)), .n 6 (bx1 (((sumE2 S A m)).pt)), .n 6 (by0 (((sumE2 S A m)).pt)), .n 6 (by1 (((sumE2 S A m)).pt)), .b (bi (((sumE2 S A m)).pt))], .int .i64 0], sv [.n 6 (bx0 (((sumE2 S A m)).pt)), .n 6 (bx1 (((sumE2 S A m)).pt)), .n 6 (by0 (((sumE2 S A m)).pt)), .n 6 (by1 (((sumE2 S A m)).pt)), .b (bi (((sumE2 S A m)).pt))], .int .i64 0, .pointer (some ⟨γ 0, 0, none⟩), .int .i64 0]) ?_ ?_)
      · refine stpx (fun _ _ => ex_move _) ?_
        refine stpx (fun _ _ => ex_move _) ?_
        refine stpc (.tuple #[sv [.n 6 (bx0 (((sumE2 S A m)).pt)), .n 6 (bx1 (((sumE2 S A m)).pt)), .n 6 (by0 (((sumE2 S A m)).pt)), .n 6 (by1 (((sumE2 S A m)).pt)), .b (bi (((sumE2 S A m)).pt))], .int .i64 0]) (fun γ w => ex_call (vs := [.slice ap m cp, .slice ak m ck]) rfl Tryz.call18 rfl) (fun w h => sumAny2_pT m (by omega) S A ap ak cp ck HA _ (HS.keep (below_here HB40 h)) (HK.keep (below_here HB40 h))) ?_
        refine stpx (fun _ _ => ex_move _) ?_
        refine stpx (fun _ _ => ex_extract (vs := [sv [.n 6 (bx0 (((sumE2 S A m)).pt)), .n 6 (bx1 (((sumE2 S A m)).pt)), .n 6 (by0 (((sumE2 S A m)).pt)), .n 6 (by1 (((sumE2 S A m)).pt)), .b (bi (((sumE2 S A m)).pt))], .int .i64 0]) rfl rfl) ?_
        refine stpx (fun _ _ => ex_extract (vs := [sv [.n 6 (bx0 (((sumE2 S A m)).pt)), .n 6 (bx1 (((sumE2 S A m)).pt)), .n 6 (by0 (((sumE2 S A m)).pt)), .n 6 (by1 (((sumE2 S A m)).pt)), .b (bi (((sumE2 S A m)).pt))], .int .i64 0]) rfl rfl) ?_
        refine GSteps.cons (gm_new 0 rfl (fun _ => rfl) (fun _ _ => rfl) (fun γ w => ex_allocs (l := [.n 6 0, .n 6 0, .n 6 0, .n 6 0, .b false]) zG2) rfl (by kernel_rfl)) ?_
        refine GSteps.cons (gm_store 0 rfl rfl (fun _ => rfl) (len_segs (l := [.n 6 (bx0 (((sumE2 S A m)).pt)), .n 6 (bx1 (((sumE2 S A m)).pt)), .n 6 (by0 (((sumE2 S A m)).pt)), .n 6 (by1 (((sumE2 S A m)).pt)), .b (bi (((sumE2 S A m)).pt))]) (l' := [.n 6 0, .n 6 0, .n 6 0, .n 6 0, .b false]) rfl) (fun γ w h => ex_stores 0 5 (l := [.n 6 0, .n 6 0, .n 6 0, .n 6 0, .b false]) (m := [.n 6 (bx0 (((sumE2 S A m)).pt)), .n 6 (bx1 (((sumE2 S A m)).pt)), .n 6 (by0 (((sumE2 S A m)).pt)), .n 6 (by1 (((sumE2 S A m)).pt)), .b (bi (((sumE2 S A m)).pt))]) flG2.2 rfl rfl rfl rfl h rfl rfl) rfl rfl (by kernel_rfl)) ?_
        refine stpx (fun _ _ => ex_assign _) ?_
        exact GSteps.nil
      intro γ53 w53 hb53 hB53 _
      refine th_r ?_
      have A54 : SB 30 w53 (γ53 0) [.n 6 (bx0 (((sumE2 S A m)).pt)), .n 6 (bx1 (((sumE2 S A m)).pt)), .n 6 (by0 (((sumE2 S A m)).pt)), .n 6 (by1 (((sumE2 S A m)).pt)), .b (bi (((sumE2 S A m)).pt))] := (hB53 0 (by decide)).2
      have le54 := (hB53 0 (by decide)).1
      have HB55 := below_then HB40 hb53.out
      refine wp_seq ?_
      refine wp_seq (region_0 [51, 52, 53, 54, 55, 56, 10] [.slice ap m cp, .int .i64 ((m : Nat) : Int), .slice ak m ck, .int .i64 ((m : Nat) : Int), .bool false, .int .i64 0, .int .i64 0] ?_ ?_)
      · refine stpx (fun _ _ => ex_move _) ?_
        refine stpx (fun _ _ => ex_lenR slP2 (m := m) rfl) ?_
        refine stpx (fun _ _ => ex_move _) ?_
        refine stpx (fun _ _ => ex_lenR slR2 (m := m) rfl) ?_
        refine stpx (fun _ _ => ex_move _) ?_
        refine stpc (.int .i64 0) (fun γ w => ex_call (vs := [.int .i64 ((m : Nat) : Int), .int .i64 ((m : Nat) : Int), .bool false]) rfl Tryz.call19 rfl) (fun w h => sumbad_okT m (by omega) _) ?_
        refine stpx (fun _ _ => ex_assign _) ?_
        exact GSteps.nil
      intro w56 hb56
      refine th_r ?_
      have A57 := A54.keep hb56.out
      have HB58 := below_then HB55 hb56.out
      refine wp_seq (region_0 [57, 58] [.int .i64 0, .bool false] ?_ ?_)
      · refine stpx (fun _ _ => ex_move _) ?_
        refine stpx (fun _ _ => ex_neqi rfl rfl _ rfl) ?_
        exact GSteps.nil
      intro w59 hb59
      refine th_r ?_
      have A60 := A57.keep hb59.out
      have HB61 := below_then HB58 hb59.out
      refine wp_cond_false rfl ?_
      refine wp_skip ?_
      refine th_r ?_
      refine wp_seq (region_c 1 (fun _ => 30) (fun _ => 1) (fun _ => 2) (fun _ => segs [.n 6 0, .n 6 0, .n 6 0, .n 6 0, .b false]) (fun _ => segs [.n 6 (bx0 Z2.pt), .n 6 (bx1 Z2.pt), .n 6 (by0 Z2.pt), .n 6 (by1 Z2.pt), .b (bi Z2.pt)]) [70, 11] (fun γ => [sv [.n 6 (bx0 Z2.pt), .n 6 (bx1 Z2.pt), .n 6 (by0 Z2.pt), .n 6 (by1 Z2.pt), .b (bi Z2.pt)], .pointer (some ⟨γ 0, 0, none⟩)]) ?_ ?_)
      · refine stpc (sv [.n 6 (bx0 Z2.pt), .n 6 (bx1 Z2.pt), .n 6 (by0 Z2.pt), .n 6 (by1 Z2.pt), .b (bi Z2.pt)]) (fun γ w => ex_call (vs := []) rfl Tryz.call21 rfl) (fun w h => twoZero_p _) ?_
        refine GSteps.cons (gm_new 0 rfl (fun _ => rfl) (fun _ _ => rfl) (fun γ w => ex_allocs (l := [.n 6 0, .n 6 0, .n 6 0, .n 6 0, .b false]) zG2) rfl (by kernel_rfl)) ?_
        refine GSteps.cons (gm_store 0 rfl rfl (fun _ => rfl) (len_segs (l := [.n 6 (bx0 Z2.pt), .n 6 (bx1 Z2.pt), .n 6 (by0 Z2.pt), .n 6 (by1 Z2.pt), .b (bi Z2.pt)]) (l' := [.n 6 0, .n 6 0, .n 6 0, .n 6 0, .b false]) rfl) (fun γ w h => ex_stores 0 5 (l := [.n 6 0, .n 6 0, .n 6 0, .n 6 0, .b false]) (m := [.n 6 (bx0 Z2.pt), .n 6 (bx1 Z2.pt), .n 6 (by0 Z2.pt), .n 6 (by1 Z2.pt), .b (bi Z2.pt)]) flG2.2 rfl rfl rfl rfl h rfl rfl) rfl rfl (by kernel_rfl)) ?_
        exact GSteps.nil
      intro γ62 w62 hb62 hB62 _
      refine th_r ?_
      have A63 := A60.keep hb62.out
      have A64 : SB 30 w62 (γ62 0) [.n 6 (bx0 Z2.pt), .n 6 (bx1 Z2.pt), .n 6 (by0 Z2.pt), .n 6 (by1 Z2.pt), .b (bi Z2.pt)] := (hB62 0 (by decide)).2
      have le64 := (hB62 0 (by decide)).1
      have HB65 := below_then HB61 hb62.out
      refine wp_seq ?_
      refine wp_seq (region_0 [71, 72, 73] [.slice ap m cp, .int .i64 ((m : Nat) : Int), .int .i64 0] ?_ ?_)
      · refine stpx (fun _ _ => ex_move _) ?_
        refine stpx (fun _ _ => ex_lenR slP2 (m := m) rfl) ?_
        refine stpx (fun _ _ => ex_move _) ?_
        exact GSteps.nil
      intro w66 hb66
      refine th_r ?_
      have A67 := A63.keep hb66.out
      have A68 := A64.keep hb66.out
      have HB69 := below_then HB65 hb66.out
      refine wp_block ?_
      refine wp_loop_by (m) (fun q_ a_ v_ => ∃ j4 j12 j13 j14 j15 j16 j17 j74 j75 j76 j77 j78 j79 j80 j81 j82 j83 j84 j85 j86 j87 j88 j89 j90 j91 j92 j93 j94 j95 j96 j97 j98 j99 j100 : Value, a_ = ⟨List.toArray ((.slice ap m cp) :: (.slice ak m ck) :: undef :: undef :: j4 :: (.bool false) :: undef :: i38_7 :: (.pointer (some ⟨(γ53 0), 0, none⟩)) :: (.int .i64 0) :: (.int .i64 0) :: (.pointer (some ⟨(γ62 0), 0, none⟩)) :: j12 :: j13 :: j14 :: j15 :: j16 :: j17 :: (.slice ap m cp) :: (.int .i64 ((m : Nat) : Int)) :: (.bool false) :: (.bool false) :: undef :: undef :: undef :: (.bool false) :: undef :: undef :: (.slice ap m cp) :: (.slice ap m cp) :: (.int .i64 ((m : Nat) : Int)) :: (.int .i64 ((m : Nat) : Int)) :: (.slice ap m cp) :: (.int .i64 ((m : Nat) : Int)) :: (.int .i64 ((m : Nat) : Int)) :: (.bool false) :: i38_36 :: i38_37 :: i38_38 :: i38_39 :: i38_40 :: i38_41 :: i38_42 :: i38_43 :: i38_44 :: (.tuple #[sv [.n 6 (bx0 (((sumE2 S A m)).pt)), .n 6 (bx1 (((sumE2 S A m)).pt)), .n 6 (by0 (((sumE2 S A m)).pt)), .n 6 (by1 (((sumE2 S A m)).pt)), .b (bi (((sumE2 S A m)).pt))], .int .i64 0]) :: (.slice ap m cp) :: (.slice ak m ck) :: (.tuple #[sv [.n 6 (bx0 (((sumE2 S A m)).pt)), .n 6 (bx1 (((sumE2 S A m)).pt)), .n 6 (by0 (((sumE2 S A m)).pt)), .n 6 (by1 (((sumE2 S A m)).pt)), .b (bi (((sumE2 S A m)).pt))], .int .i64 0]) :: (sv [.n 6 (bx0 (((sumE2 S A m)).pt)), .n 6 (bx1 (((sumE2 S A m)).pt)), .n 6 (by0 (((sumE2 S A m)).pt)), .n 6 (by1 (((sumE2 S A m)).pt)), .b (bi (((sumE2 S A m)).pt))]) :: (.int .i64 0) :: (.slice ap m cp) :: (.int .i64 ((m : Nat) : Int)) :: (.slice ak m ck) :: (.int .i64 ((m : Nat) : Int)) :: (.bool false) :: (.int .i64 0) :: (.int .i64 0) :: (.bool false) :: undef :: undef :: undef :: undef :: undef :: undef :: undef :: undef :: undef :: undef :: undef :: (sv [.n 6 (bx0 Z2.pt), .n 6 (bx1 Z2.pt), .n 6 (by0 Z2.pt), .n 6 (by1 Z2.pt), .b (bi Z2.pt)]) :: (.slice ap m cp) :: (.int .i64 ((m : Nat) : Int)) :: (.int .i64 ((q_ : Nat) : Int)) :: j74 :: j75 :: j76 :: j77 :: j78 :: j79 :: j80 :: j81 :: j82 :: j83 :: j84 :: j85 :: j86 :: j87 :: j88 :: j89 :: j90 :: j91 :: j92 :: j93 :: j94 :: j95 :: j96 :: j97 :: j98 :: j99 :: j100 :: undef :: undef :: undef :: undef :: undef :: undef :: undef :: undef :: undef :: undef :: []), []⟩ ∧ SB 30 v_ (γ53 0) [.n 6 (bx0 (((sumE2 S A m)).pt)), .n 6 (bx1 (((sumE2 S A m)).pt)), .n 6 (by0 (((sumE2 S A m)).pt)), .n 6 (by1 (((sumE2 S A m)).pt)), .b (bi (((sumE2 S A m)).pt))] ∧ SB 30 v_ (γ62 0) [.n 6 (bx0 (((sumE2 S A q_)).pt)), .n 6 (bx1 (((sumE2 S A q_)).pt)), .n 6 (by0 (((sumE2 S A q_)).pt)), .n 6 (by1 (((sumE2 S A q_)).pt)), .b (bi (((sumE2 S A q_)).pt))] ∧ Below w.heap.size w v_) ⟨_, _, _, _, _, _, _, _, _, _, _, _, _, _, _, _, _, _, _, _, _, _, _, _, _, _, _, _, _, _, _, _, _, _, rfl, A67, A68, HB69⟩ ?_ ?_
      · intro k70 hk70
        rintro _ w70 ⟨i70_4, i70_12, i70_13, i70_14, i70_15, i70_16, i70_17, i70_74, i70_75, i70_76, i70_77, i70_78, i70_79, i70_80, i70_81, i70_82, i70_83, i70_84, i70_85, i70_86, i70_87, i70_88, i70_89, i70_90, i70_91, i70_92, i70_93, i70_94, i70_95, i70_96, i70_97, i70_98, i70_99, i70_100, rfl, A70_0, A70_1, HB70⟩ K70 hK70
        have hq := hk70
        refine wp_seq (region_0 [74] [.bool true] ?_ ?_)
        · refine stpx (fun _ _ => ex_ilss rfl rfl true (by rw [eq_comm, decide_eq_true_eq]; omega)) ?_
          exact GSteps.nil
        intro w71 hb71
        refine th_r ?_
        have A72 := A70_0.keep hb71.out
        have A73 := A70_1.keep hb71.out
        have HB74 := below_then HB70 hb71.out
        refine wp_seq ?_
        refine wp_cond_true rfl ?_
        refine wp_skip ?_
        refine th_r ?_
        refine wp_seq ?_
        refine wp_block ?_
        obtain ⟨g75, o75, ha75, lg75, hr75⟩ := (HS.keep HB74) k70 hq
        skip
        · refine wp_seq (region_c 1 (fun _ => 30) (fun _ => 3) (fun _ => 5) (fun _ => segs [.n 6 0, .n 6 0, .n 6 0, .n 6 0, .b false]) (fun _ => segs [.n 6 (bx0 (((S k70)).pt)), .n 6 (bx1 (((S k70)).pt)), .n 6 (by0 (((S k70)).pt)), .n 6 (by1 (((S k70)).pt)), .b (bi (((S k70)).pt))]) [75, 76, 77, 13, 12] (fun γ => [.int .i64 ((k70 : Nat) : Int), .pointer (some ⟨g75, o75 + 25 * k70, none⟩), sv [.n 6 (bx0 (((S k70)).pt)), .n 6 (bx1 (((S k70)).pt)), .n 6 (by0 (((S k70)).pt)), .n 6 (by1 (((S k70)).pt)), .b (bi (((S k70)).pt))], .pointer (some ⟨γ 0, 0, none⟩), .int .i64 ((k70 : Nat) : Int)]) ?_ ?_)
          · refine stpx (fun _ _ => ex_move _) ?_
            refine stpx (fun _ _ => ex_idxR slP2 (a := ap) (m := m) (c := cp) (i := k70) rfl ha75 rfl hq) ?_
            refine stpv (fun γ w h => ex_loadR (l := [.n 6 (bx0 (((S k70)).pt)), .n 6 (bx1 (((S k70)).pt)), .n 6 (by0 (((S k70)).pt)), .n 6 (by1 (((S k70)).pt)), .b (bi (((S k70)).pt))]) flG2 rfl rfl (range_keep lg75 h.out hr75)) ?_
            refine GSteps.cons (gm_new 0 rfl (fun _ => rfl) (fun _ _ => rfl) (fun γ w => ex_allocs (l := [.n 6 0, .n 6 0, .n 6 0, .n 6 0, .b false]) zG2) rfl (by kernel_rfl)) ?_
            refine stpx (fun _ _ => ex_assign _) ?_
            refine GSteps.cons (gm_store 0 rfl rfl (fun _ => rfl) (len_segs (l := [.n 6 (bx0 (((S k70)).pt)), .n 6 (bx1 (((S k70)).pt)), .n 6 (by0 (((S k70)).pt)), .n 6 (by1 (((S k70)).pt)), .b (bi (((S k70)).pt))]) (l' := [.n 6 0, .n 6 0, .n 6 0, .n 6 0, .b false]) rfl) (fun γ w h => ex_stores 0 5 (l := [.n 6 0, .n 6 0, .n 6 0, .n 6 0, .b false]) (m := [.n 6 (bx0 (((S k70)).pt)), .n 6 (bx1 (((S k70)).pt)), .n 6 (by0 (((S k70)).pt)), .n 6 (by1 (((S k70)).pt)), .b (bi (((S k70)).pt))]) flG2.2 rfl rfl rfl rfl h rfl rfl) rfl rfl (by kernel_rfl)) ?_
            exact GSteps.nil
          intro γ76 w76 hb76 hB76 _
          refine th_r ?_
          have A77 := A72.keep hb76.out
          have A78 := A73.keep hb76.out
          have A79 : SB 30 w76 (γ76 0) [.n 6 (bx0 (((S k70)).pt)), .n 6 (bx1 (((S k70)).pt)), .n 6 (by0 (((S k70)).pt)), .n 6 (by1 (((S k70)).pt)), .b (bi (((S k70)).pt))] := (hB76 0 (by decide)).2
          have le79 := (hB76 0 (by decide)).1
          have HB80 := below_then HB74 hb76.out
          obtain ⟨g81, o81, ha81, lg81, hr81⟩ := (HK.keep HB80) k70 hq
          skip
          · refine wp_seq (region_c 1 (fun _ => 30) (fun _ => 9) (fun _ => 10) (fun _ => segs [.n 6 0, .n 6 0, .n 6 0, .n 6 0, .b false]) (fun _ => segs [.n 6 (bx0 (((EP.times C2 (A k70) (S k70))).pt)), .n 6 (bx1 (((EP.times C2 (A k70) (S k70))).pt)), .n 6 (by0 (((EP.times C2 (A k70) (S k70))).pt)), .n 6 (by1 (((EP.times C2 (A k70) (S k70))).pt)), .b (bi (((EP.times C2 (A k70) (S k70))).pt))]) [79, 80, 81, 82, 83, 84, 78, 85, 86, 14, 15] (fun γ => [sv [.n 6 (bx0 (((S k70)).pt)), .n 6 (bx1 (((S k70)).pt)), .n 6 (by0 (((S k70)).pt)), .n 6 (by1 (((S k70)).pt)), .b (bi (((S k70)).pt))], .slice ak m ck, .int .i64 ((k70 : Nat) : Int), .pointer (some ⟨g81, o81 + 4 * k70, none⟩), nv 4 [(A k70)], .tuple #[sv [.n 6 (bx0 (((EP.times C2 (A k70) (S k70))).pt)), .n 6 (bx1 (((EP.times C2 (A k70) (S k70))).pt)), .n 6 (by0 (((EP.times C2 (A k70) (S k70))).pt)), .n 6 (by1 (((EP.times C2 (A k70) (S k70))).pt)), .b (bi (((EP.times C2 (A k70) (S k70))).pt))], .int .i64 0], .tuple #[sv [.n 6 (bx0 (((EP.times C2 (A k70) (S k70))).pt)), .n 6 (bx1 (((EP.times C2 (A k70) (S k70))).pt)), .n 6 (by0 (((EP.times C2 (A k70) (S k70))).pt)), .n 6 (by1 (((EP.times C2 (A k70) (S k70))).pt)), .b (bi (((EP.times C2 (A k70) (S k70))).pt))], .int .i64 0], sv [.n 6 (bx0 (((EP.times C2 (A k70) (S k70))).pt)), .n 6 (bx1 (((EP.times C2 (A k70) (S k70))).pt)), .n 6 (by0 (((EP.times C2 (A k70) (S k70))).pt)), .n 6 (by1 (((EP.times C2 (A k70) (S k70))).pt)), .b (bi (((EP.times C2 (A k70) (S k70))).pt))], .int .i64 0, .pointer (some ⟨γ 0, 0, none⟩), .int .i64 0]) ?_ ?_)
            · refine stpv (fun γ w h => ex_loads 0 5 (m := [.n 6 (bx0 (((S k70)).pt)), .n 6 (bx1 (((S k70)).pt)), .n 6 (by0 (((S k70)).pt)), .n 6 (by1 (((S k70)).pt)), .b (bi (((S k70)).pt))]) flG2 rfl rfl (A79.keep h.out) rfl rfl) ?_
              refine stpx (fun _ _ => ex_move _) ?_
              refine stpx (fun _ _ => ex_move _) ?_
              refine stpx (fun _ _ => ex_idxR slR2 (a := ak) (m := m) (c := ck) (i := k70) rfl ha81 rfl hq) ?_
              refine stpv (fun γ w h => ex_loadRn (K := 4) (v := (A k70)) flFr rfl (range_keep lg81 h.out hr81)) ?_
              refine stpc (.tuple #[sv [.n 6 (bx0 (((EP.times C2 (A k70) (S k70))).pt)), .n 6 (bx1 (((EP.times C2 (A k70) (S k70))).pt)), .n 6 (by0 (((EP.times C2 (A k70) (S k70))).pt)), .n 6 (by1 (((EP.times C2 (A k70) (S k70))).pt)), .b (bi (((EP.times C2 (A k70) (S k70))).pt))], .int .i64 0]) (fun γ w => ex_call (vs := [sv [.n 6 (bx0 (((S k70)).pt)), .n 6 (bx1 (((S k70)).pt)), .n 6 (by0 (((S k70)).pt)), .n 6 (by1 (((S k70)).pt)), .b (bi (((S k70)).pt))], nv 4 [(A k70)]]) rfl Tryz.call22 rfl) (fun w h => twoMul_p (S k70) _ (A k70) (HA k70 hk70) rfl _) ?_
              refine stpx (fun _ _ => ex_move _) ?_
              refine stpx (fun _ _ => ex_extract (vs := [sv [.n 6 (bx0 (((EP.times C2 (A k70) (S k70))).pt)), .n 6 (bx1 (((EP.times C2 (A k70) (S k70))).pt)), .n 6 (by0 (((EP.times C2 (A k70) (S k70))).pt)), .n 6 (by1 (((EP.times C2 (A k70) (S k70))).pt)), .b (bi (((EP.times C2 (A k70) (S k70))).pt))], .int .i64 0]) rfl rfl) ?_
              refine stpx (fun _ _ => ex_extract (vs := [sv [.n 6 (bx0 (((EP.times C2 (A k70) (S k70))).pt)), .n 6 (bx1 (((EP.times C2 (A k70) (S k70))).pt)), .n 6 (by0 (((EP.times C2 (A k70) (S k70))).pt)), .n 6 (by1 (((EP.times C2 (A k70) (S k70))).pt)), .b (bi (((EP.times C2 (A k70) (S k70))).pt))], .int .i64 0]) rfl rfl) ?_
              refine GSteps.cons (gm_new 0 rfl (fun _ => rfl) (fun _ _ => rfl) (fun γ w => ex_allocs (l := [.n 6 0, .n 6 0, .n 6 0, .n 6 0, .b false]) zG2) rfl (by kernel_rfl)) ?_
              refine GSteps.cons (gm_store 0 rfl rfl (fun _ => rfl) (len_segs (l := [.n 6 (bx0 (((EP.times C2 (A k70) (S k70))).pt)), .n 6 (bx1 (((EP.times C2 (A k70) (S k70))).pt)), .n 6 (by0 (((EP.times C2 (A k70) (S k70))).pt)), .n 6 (by1 (((EP.times C2 (A k70) (S k70))).pt)), .b (bi (((EP.times C2 (A k70) (S k70))).pt))]) (l' := [.n 6 0, .n 6 0, .n 6 0, .n 6 0, .b false]) rfl) (fun γ w h => ex_stores 0 5 (l := [.n 6 0, .n 6 0, .n 6 0, .n 6 0, .b false]) (m := [.n 6 (bx0 (((EP.times C2 (A k70) (S k70))).pt)), .n 6 (bx1 (((EP.times C2 (A k70) (S k70))).pt)), .n 6 (by0 (((EP.times C2 (A k70) (S k70))).pt)), .n 6 (by1 (((EP.times C2 (A k70) (S k70))).pt)), .b (bi (((EP.times C2 (A k70) (S k70))).pt))]) flG2.2 rfl rfl rfl rfl h rfl rfl) rfl rfl (by kernel_rfl)) ?_
              refine stpx (fun _ _ => ex_assign _) ?_
              exact GSteps.nil
            intro γ82 w82 hb82 hB82 _
            refine th_r ?_
            have A83 := A77.keep hb82.out
            have A84 := A78.keep hb82.out
            have A85 := A79.keep hb82.out
            have A86 : SB 30 w82 (γ82 0) [.n 6 (bx0 (((EP.times C2 (A k70) (S k70))).pt)), .n 6 (bx1 (((EP.times C2 (A k70) (S k70))).pt)), .n 6 (by0 (((EP.times C2 (A k70) (S k70))).pt)), .n 6 (by1 (((EP.times C2 (A k70) (S k70))).pt)), .b (bi (((EP.times C2 (A k70) (S k70))).pt))] := (hB82 0 (by decide)).2
            have le86 := (hB82 0 (by decide)).1
            have HB87 := below_then HB80 hb82.out
            refine wp_seq (region_c 1 (fun _ => 30) (fun _ => 6) (fun _ => 7) (fun _ => segs [.n 6 0, .n 6 0, .n 6 0, .n 6 0, .b false]) (fun _ => segs [.n 6 (bx0 (((sumE2 S A (k70 + 1))).pt)), .n 6 (bx1 (((sumE2 S A (k70 + 1))).pt)), .n 6 (by0 (((sumE2 S A (k70 + 1))).pt)), .n 6 (by1 (((sumE2 S A (k70 + 1))).pt)), .b (bi (((sumE2 S A (k70 + 1))).pt))]) [88, 89, 90, 87, 91, 92, 16, 17] (fun γ => [sv [.n 6 (bx0 (((sumE2 S A k70)).pt)), .n 6 (bx1 (((sumE2 S A k70)).pt)), .n 6 (by0 (((sumE2 S A k70)).pt)), .n 6 (by1 (((sumE2 S A k70)).pt)), .b (bi (((sumE2 S A k70)).pt))], sv [.n 6 (bx0 (((EP.times C2 (A k70) (S k70))).pt)), .n 6 (bx1 (((EP.times C2 (A k70) (S k70))).pt)), .n 6 (by0 (((EP.times C2 (A k70) (S k70))).pt)), .n 6 (by1 (((EP.times C2 (A k70) (S k70))).pt)), .b (bi (((EP.times C2 (A k70) (S k70))).pt))], .tuple #[sv [.n 6 (bx0 (((sumE2 S A (k70 + 1))).pt)), .n 6 (bx1 (((sumE2 S A (k70 + 1))).pt)), .n 6 (by0 (((sumE2 S A (k70 + 1))).pt)), .n 6 (by1 (((sumE2 S A (k70 + 1))).pt)), .b (bi (((sumE2 S A (k70 + 1))).pt))], .int .i64 0], .tuple #[sv [.n 6 (bx0 (((sumE2 S A (k70 + 1))).pt)), .n 6 (bx1 (((sumE2 S A (k70 + 1))).pt)), .n 6 (by0 (((sumE2 S A (k70 + 1))).pt)), .n 6 (by1 (((sumE2 S A (k70 + 1))).pt)), .b (bi (((sumE2 S A (k70 + 1))).pt))], .int .i64 0], sv [.n 6 (bx0 (((sumE2 S A (k70 + 1))).pt)), .n 6 (bx1 (((sumE2 S A (k70 + 1))).pt)), .n 6 (by0 (((sumE2 S A (k70 + 1))).pt)), .n 6 (by1 (((sumE2 S A (k70 + 1))).pt)), .b (bi (((sumE2 S A (k70 + 1))).pt))], .int .i64 0, .pointer (some ⟨γ 0, 0, none⟩), .int .i64 0]) ?_ ?_)
            · refine stpv (fun γ w h => ex_loads 0 5 (m := [.n 6 (bx0 (((sumE2 S A k70)).pt)), .n 6 (bx1 (((sumE2 S A k70)).pt)), .n 6 (by0 (((sumE2 S A k70)).pt)), .n 6 (by1 (((sumE2 S A k70)).pt)), .b (bi (((sumE2 S A k70)).pt))]) flG2 rfl rfl (A84.keep h.out) rfl rfl) ?_
              refine stpv (fun γ w h => ex_loads 0 5 (m := [.n 6 (bx0 (((EP.times C2 (A k70) (S k70))).pt)), .n 6 (bx1 (((EP.times C2 (A k70) (S k70))).pt)), .n 6 (by0 (((EP.times C2 (A k70) (S k70))).pt)), .n 6 (by1 (((EP.times C2 (A k70) (S k70))).pt)), .b (bi (((EP.times C2 (A k70) (S k70))).pt))]) flG2 rfl rfl (A86.keep h.out) rfl rfl) ?_
              refine stpc (.tuple #[sv [.n 6 (bx0 (((sumE2 S A (k70 + 1))).pt)), .n 6 (bx1 (((sumE2 S A (k70 + 1))).pt)), .n 6 (by0 (((sumE2 S A (k70 + 1))).pt)), .n 6 (by1 (((sumE2 S A (k70 + 1))).pt)), .b (bi (((sumE2 S A (k70 + 1))).pt))], .int .i64 0]) (fun γ w => ex_call (vs := [sv [.n 6 (bx0 (((sumE2 S A k70)).pt)), .n 6 (bx1 (((sumE2 S A k70)).pt)), .n 6 (by0 (((sumE2 S A k70)).pt)), .n 6 (by1 (((sumE2 S A k70)).pt)), .b (bi (((sumE2 S A k70)).pt))], sv [.n 6 (bx0 (((EP.times C2 (A k70) (S k70))).pt)), .n 6 (bx1 (((EP.times C2 (A k70) (S k70))).pt)), .n 6 (by0 (((EP.times C2 (A k70) (S k70))).pt)), .n 6 (by1 (((EP.times C2 (A k70) (S k70))).pt)), .b (bi (((EP.times C2 (A k70) (S k70))).pt))]]) rfl Tryz.call23 rfl) (fun w h => twoAdd_p (sumE2 S A k70) (EP.times C2 (A k70) (S k70)) _ rfl _) ?_
              refine stpx (fun _ _ => ex_move _) ?_
              refine stpx (fun _ _ => ex_extract (vs := [sv [.n 6 (bx0 (((sumE2 S A (k70 + 1))).pt)), .n 6 (bx1 (((sumE2 S A (k70 + 1))).pt)), .n 6 (by0 (((sumE2 S A (k70 + 1))).pt)), .n 6 (by1 (((sumE2 S A (k70 + 1))).pt)), .b (bi (((sumE2 S A (k70 + 1))).pt))], .int .i64 0]) rfl rfl) ?_
              refine stpx (fun _ _ => ex_extract (vs := [sv [.n 6 (bx0 (((sumE2 S A (k70 + 1))).pt)), .n 6 (bx1 (((sumE2 S A (k70 + 1))).pt)), .n 6 (by0 (((sumE2 S A (k70 + 1))).pt)), .n 6 (by1 (((sumE2 S A (k70 + 1))).pt)), .b (bi (((sumE2 S A (k70 + 1))).pt))], .int .i64 0]) rfl rfl) ?_
              refine GSteps.cons (gm_new 0 rfl (fun _ => rfl) (fun _ _ => rfl) (fun γ w => ex_allocs (l := [.n 6 0, .n 6 0, .n 6 0, .n 6 0, .b false]) zG2) rfl (by kernel_rfl)) ?_
              refine GSteps.cons (gm_store 0 rfl rfl (fun _ => rfl) (len_segs (l := [.n 6 (bx0 (((sumE2 S A (k70 + 1))).pt)), .n 6 (bx1 (((sumE2 S A (k70 + 1))).pt)), .n 6 (by0 (((sumE2 S A (k70 + 1))).pt)), .n 6 (by1 (((sumE2 S A (k70 + 1))).pt)), .b (bi (((sumE2 S A (k70 + 1))).pt))]) (l' := [.n 6 0, .n 6 0, .n 6 0, .n 6 0, .b false]) rfl) (fun γ w h => ex_stores 0 5 (l := [.n 6 0, .n 6 0, .n 6 0, .n 6 0, .b false]) (m := [.n 6 (bx0 (((sumE2 S A (k70 + 1))).pt)), .n 6 (bx1 (((sumE2 S A (k70 + 1))).pt)), .n 6 (by0 (((sumE2 S A (k70 + 1))).pt)), .n 6 (by1 (((sumE2 S A (k70 + 1))).pt)), .b (bi (((sumE2 S A (k70 + 1))).pt))]) flG2.2 rfl rfl rfl rfl h rfl rfl) rfl rfl (by kernel_rfl)) ?_
              refine stpx (fun _ _ => ex_assign _) ?_
              exact GSteps.nil
            intro γ88 w88 hb88 hB88 _
            refine th_r ?_
            have A89 := A83.keep hb88.out
            have A90 := A84.keep hb88.out
            have A91 := A85.keep hb88.out
            have A92 := A86.keep hb88.out
            have A93 : SB 30 w88 (γ88 0) [.n 6 (bx0 (((sumE2 S A (k70 + 1))).pt)), .n 6 (bx1 (((sumE2 S A (k70 + 1))).pt)), .n 6 (by0 (((sumE2 S A (k70 + 1))).pt)), .n 6 (by1 (((sumE2 S A (k70 + 1))).pt)), .b (bi (((sumE2 S A (k70 + 1))).pt))] := (hB88 0 (by decide)).2
            have le93 := (hB88 0 (by decide)).1
            have HB94 := below_then HB87 hb88.out
            refine wp_seq ?_
            refine wp_seq (region_0 [93, 94, 95, 96, 97, 98] [.int .i64 0, .bool false, .bool false, .int .i64 0, .bool false, .bool false] ?_ ?_)
            · refine stpx (fun _ _ => ex_move _) ?_
              refine stpx (fun _ _ => ex_neqi rfl rfl _ rfl) ?_
              refine stpx (fun _ _ => ex_move _) ?_
              refine stpx (fun _ _ => ex_move _) ?_
              refine stpx (fun _ _ => ex_neqi rfl rfl _ rfl) ?_
              refine stpx (fun _ _ => ex_pick (r := false) rfl) ?_
              exact GSteps.nil
            intro w95 hb95
            refine th_r ?_
            have A96 := A89.keep hb95.out
            have A97 := A90.keep hb95.out
            have A98 := A91.keep hb95.out
            have A99 := A92.keep hb95.out
            have A100 := A93.keep hb95.out
            have HB101 := below_then HB94 hb95.out
            refine wp_cond_false rfl ?_
            refine wp_skip ?_
            refine th_r ?_
            refine region_s 1 ((γ62 0)) 0 (segs [.n 6 (bx0 (((sumE2 S A (k70 + 1))).pt)), .n 6 (bx1 (((sumE2 S A (k70 + 1))).pt)), .n 6 (by0 (((sumE2 S A (k70 + 1))).pt)), .n 6 (by1 (((sumE2 S A (k70 + 1))).pt)), .b (bi (((sumE2 S A (k70 + 1))).pt))]) [99] [sv [.n 6 (bx0 (((sumE2 S A (k70 + 1))).pt)), .n 6 (bx1 (((sumE2 S A (k70 + 1))).pt)), .n 6 (by0 (((sumE2 S A (k70 + 1))).pt)), .n 6 (by1 (((sumE2 S A (k70 + 1))).pt)), .b (bi (((sumE2 S A (k70 + 1))).pt))]] ?_ ?_
            · refine latv (fun γ w h => ex_loads 0 5 (m := [.n 6 (bx0 (((sumE2 S A (k70 + 1))).pt)), .n 6 (bx1 (((sumE2 S A (k70 + 1))).pt)), .n 6 (by0 (((sumE2 S A (k70 + 1))).pt)), .n 6 (by1 (((sumE2 S A (k70 + 1))).pt)), .b (bi (((sumE2 S A (k70 + 1))).pt))]) flG2 rfl rfl (A100.keep h.out) rfl rfl) ?_
              refine GSteps.cons (late_store rfl (fun _ => rfl) (fun γ w h => ex_stores 0 5 (l := [.n 6 (bx0 (((sumE2 S A k70)).pt)), .n 6 (bx1 (((sumE2 S A k70)).pt)), .n 6 (by0 (((sumE2 S A k70)).pt)), .n 6 (by1 (((sumE2 S A k70)).pt)), .b (bi (((sumE2 S A k70)).pt))]) (m := [.n 6 (bx0 (((sumE2 S A (k70 + 1))).pt)), .n 6 (bx1 (((sumE2 S A (k70 + 1))).pt)), .n 6 (by0 (((sumE2 S A (k70 + 1))).pt)), .n 6 (by1 (((sumE2 S A (k70 + 1))).pt)), .b (bi (((sumE2 S A (k70 + 1))).pt))]) flG2.2 rfl rfl rfl rfl (A97.keep h.out) rfl rfl) rfl) ?_
              exact GSteps.nil
            intro w102 w102_ hb102 hs102
            have A103 := A96.keep hb102.out
            have A104 := A97.keep hb102.out
            have A105 := A98.keep hb102.out
            have A106 := A99.keep hb102.out
            have A107 := A100.keep hb102.out
            have HB108 := below_then HB101 hb102.out
            have A109 := hs102.other (Nat.ne_of_lt (Nat.lt_of_lt_of_le A60.lt le64)) A103
            have A110 := hs102.here 0 5 (l' := [.n 6 (bx0 (((sumE2 S A (k70 + 1))).pt)), .n 6 (bx1 (((sumE2 S A (k70 + 1))).pt)), .n 6 (by0 (((sumE2 S A (k70 + 1))).pt)), .n 6 (by1 (((sumE2 S A (k70 + 1))).pt)), .b (bi (((sumE2 S A (k70 + 1))).pt))]) A104 rfl rfl rfl
            have A111 := hs102.other (Ne.symm (Nat.ne_of_lt (Nat.lt_of_lt_of_le A73.lt le79))) A105
            have A112 := hs102.other (Ne.symm (Nat.ne_of_lt (Nat.lt_of_lt_of_le A78.lt le86))) A106
            have A113 := hs102.other (Ne.symm (Nat.ne_of_lt (Nat.lt_of_lt_of_le A84.lt le93))) A107
            have HB114 := hs102.below HB108 (Nat.le_trans HB61.size le64)
            refine bk_n ?_
            refine th_r ?_
            refine wp_region_lit ?_
            refine sv1 (.int .i64 ((k70 + 1 : Nat) : Int)) (ex_iadd rfl rfl ((k70 + 1 : Nat) : Int) (cnt_up (by omega))) ?_
            refine sv1 (.int .i64 ((k70 + 1 : Nat) : Int)) (ex_move _) ?_
            refine wpList_nil ?_
            refine th_r ?_
            exact hK70.out _ _ ⟨_, _, _, _, _, _, _, _, _, _, _, _, _, _, _, _, _, _, _, _, _, _, _, _, _, _, _, _, _, _, _, _, _, _, rfl, A109, A110, HB114⟩
      · rintro _ w115 ⟨i115_4, i115_12, i115_13, i115_14, i115_15, i115_16, i115_17, i115_74, i115_75, i115_76, i115_77, i115_78, i115_79, i115_80, i115_81, i115_82, i115_83, i115_84, i115_85, i115_86, i115_87, i115_88, i115_89, i115_90, i115_91, i115_92, i115_93, i115_94, i115_95, i115_96, i115_97, i115_98, i115_99, i115_100, rfl, A115_0, A115_1, HB115⟩ K115
        refine wp_seq (region_0 [74] [.bool false] ?_ ?_)
        · refine stpx (fun _ _ => ex_ilss rfl rfl false (by rw [eq_comm, decide_eq_false_iff_not]; omega)) ?_
          exact GSteps.nil
        intro w116 hb116
        refine th_r ?_
        have A117 := A115_0.keep hb116.out
        have A118 := A115_1.keep hb116.out
        have HB119 := below_then HB115 hb116.out
        refine wp_seq ?_
        refine wp_cond_false rfl ?_
        refine wp_exit (th_e (th_e (bk_e ?_)))
        refine th_r ?_
        refine wp_seq (region_0 [101, 102, 103, 104, 105, 106, 107, 108, 109, 110, 4] [.bool true, .bool true, .int .i64 0, .bool true, .bool true, .bool true, sv [.n 6 (bx0 (((sumE2 S A m)).pt)), .n 6 (bx1 (((sumE2 S A m)).pt)), .n 6 (by0 (((sumE2 S A m)).pt)), .n 6 (by1 (((sumE2 S A m)).pt)), .b (bi (((sumE2 S A m)).pt))], sv [.n 6 (bx0 (((sumE2 S A m)).pt)), .n 6 (bx1 (((sumE2 S A m)).pt)), .n 6 (by0 (((sumE2 S A m)).pt)), .n 6 (by1 (((sumE2 S A m)).pt)), .b (bi (((sumE2 S A m)).pt))], .bool true, .bool true, .bool true] ?_ ?_)
        · refine stpc (.bool true) (fun γ w => ex_call (vs := []) rfl Tryz.call20 rfl) (fun w h => sumalive_v _) ?_
          refine stpx (fun _ _ => ex_move _) ?_
          refine stpx (fun _ _ => ex_move _) ?_
          refine stpx (fun _ _ => ex_eqi rfl rfl _ rfl) ?_
          refine stpx (fun _ _ => ex_pick (r := true) rfl) ?_
          refine stpx (fun _ _ => ex_move _) ?_
          refine stpv (fun γ w h => ex_loads 0 5 (m := [.n 6 (bx0 (((sumE2 S A m)).pt)), .n 6 (bx1 (((sumE2 S A m)).pt)), .n 6 (by0 (((sumE2 S A m)).pt)), .n 6 (by1 (((sumE2 S A m)).pt)), .b (bi (((sumE2 S A m)).pt))]) flG2 rfl rfl (A117.keep h.out) rfl rfl) ?_
          refine stpv (fun γ w h => ex_loads 0 5 (m := [.n 6 (bx0 (((sumE2 S A m)).pt)), .n 6 (bx1 (((sumE2 S A m)).pt)), .n 6 (by0 (((sumE2 S A m)).pt)), .n 6 (by1 (((sumE2 S A m)).pt)), .b (bi (((sumE2 S A m)).pt))]) flG2 rfl rfl (A118.keep h.out) rfl rfl) ?_
          refine stpx (fun _ _ => ex_eqs gdG2 eqG2 rfl rfl rfl (shG2_of (bx0_B (((sumE2 S A m)).pt)) (bx1_B (((sumE2 S A m)).pt)) (by0_B (((sumE2 S A m)).pt)) (by1_B (((sumE2 S A m)).pt))) (shG2_of (bx0_B (((sumE2 S A m)).pt)) (bx1_B (((sumE2 S A m)).pt)) (by0_B (((sumE2 S A m)).pt)) (by1_B (((sumE2 S A m)).pt))) true (by simp)) ?_
          refine stpx (fun _ _ => ex_pick (r := true) rfl) ?_
          refine stpx (fun _ _ => ex_assign _) ?_
          exact GSteps.nil
        intro w120 hb120
        refine th_r ?_
        have A121 := A117.keep hb120.out
        have A122 := A118.keep hb120.out
        have HB123 := below_then HB119 hb120.out
        exact wp_ret (bodyPost_ret (ret1 Tryz.results4 (res_tmp rfl)) rfl ⟨rfl, HB123⟩)
    · subst he
      rw [hw]
      obtain ⟨j, hj, hok, hbad⟩ := wr_yesT hw
      have HPM : Row w ap 25 m (rw2T X0 X1 Y0 Y1 I) := HP.less (by omega)
      refine wp_seq (region_c 1 (fun _ => 30) (fun _ => 6) (fun _ => 7) (fun _ => segs [.n 6 0, .n 6 0, .n 6 0, .n 6 0, .b false]) (fun _ => segs [.n 6 0, .n 6 0, .n 6 0, .n 6 0, .b false]) [46, 47, 48, 45, 49, 50, 8, 9] (fun γ => [.slice ap m cp, .slice ak m ck, .tuple #[sv [.n 6 0, .n 6 0, .n 6 0, .n 6 0, .b false], .int .i64 30], .tuple #[sv [.n 6 0, .n 6 0, .n 6 0, .n 6 0, .b false], .int .i64 30], sv [.n 6 0, .n 6 0, .n 6 0, .n 6 0, .b false], .int .i64 30, .pointer (some ⟨γ 0, 0, none⟩), .int .i64 30]) ?_ ?_)
      · refine stpx (fun _ _ => ex_move _) ?_
        refine stpx (fun _ _ => ex_move _) ?_
        refine stpc (.tuple #[sv [.n 6 0, .n 6 0, .n 6 0, .n 6 0, .b false], .int .i64 30]) (fun γ w => ex_call (vs := [.slice ap m cp, .slice ak m ck]) rfl Tryz.call18 rfl) (fun w h => sumErr2_curveT m (by omega) X0 X1 Y0 Y1 I ap ak cp ck j hj hok (hXY j (by omega)).1 (hXY j (by omega)).2.1 (hXY j (by omega)).2.2.1 (hXY j (by omega)).2.2.2 hbad _ (HPM.keep (below_here HB40 h))) ?_
        refine stpx (fun _ _ => ex_move _) ?_
        refine stpx (fun _ _ => ex_extract (vs := [sv [.n 6 0, .n 6 0, .n 6 0, .n 6 0, .b false], .int .i64 30]) rfl rfl) ?_
        refine stpx (fun _ _ => ex_extract (vs := [sv [.n 6 0, .n 6 0, .n 6 0, .n 6 0, .b false], .int .i64 30]) rfl rfl) ?_
        refine GSteps.cons (gm_new 0 rfl (fun _ => rfl) (fun _ _ => rfl) (fun γ w => ex_allocs (l := [.n 6 0, .n 6 0, .n 6 0, .n 6 0, .b false]) zG2) rfl (by kernel_rfl)) ?_
        refine GSteps.cons (gm_store 0 rfl rfl (fun _ => rfl) (len_segs (l := [.n 6 0, .n 6 0, .n 6 0, .n 6 0, .b false]) (l' := [.n 6 0, .n 6 0, .n 6 0, .n 6 0, .b false]) rfl) (fun γ w h => ex_stores 0 5 (l := [.n 6 0, .n 6 0, .n 6 0, .n 6 0, .b false]) (m := [.n 6 0, .n 6 0, .n 6 0, .n 6 0, .b false]) flG2.2 rfl rfl rfl rfl h rfl rfl) rfl rfl (by kernel_rfl)) ?_
        refine stpx (fun _ _ => ex_assign _) ?_
        exact GSteps.nil
      intro γ124 w124 hb124 hB124 _
      refine th_r ?_
      have A125 : SB 30 w124 (γ124 0) [.n 6 0, .n 6 0, .n 6 0, .n 6 0, .b false] := (hB124 0 (by decide)).2
      have le125 := (hB124 0 (by decide)).1
      have HB126 := below_then HB40 hb124.out
      refine wp_seq ?_
      refine wp_seq (region_0 [51, 52, 53, 54, 55, 56, 10] [.slice ap m cp, .int .i64 ((m : Nat) : Int), .slice ak m ck, .int .i64 ((m : Nat) : Int), .bool true, .int .i64 30, .int .i64 30] ?_ ?_)
      · refine stpx (fun _ _ => ex_move _) ?_
        refine stpx (fun _ _ => ex_lenR slP2 (m := m) rfl) ?_
        refine stpx (fun _ _ => ex_move _) ?_
        refine stpx (fun _ _ => ex_lenR slR2 (m := m) rfl) ?_
        refine stpx (fun _ _ => ex_move _) ?_
        refine stpc (.int .i64 30) (fun γ w => ex_call (vs := [.int .i64 ((m : Nat) : Int), .int .i64 ((m : Nat) : Int), .bool true]) rfl Tryz.call19 rfl) (fun w h => sumbad_curveT m (by omega) _) ?_
        refine stpx (fun _ _ => ex_assign _) ?_
        exact GSteps.nil
      intro w127 hb127
      refine th_r ?_
      have A128 := A125.keep hb127.out
      have HB129 := below_then HB126 hb127.out
      refine wp_seq (region_0 [57, 58] [.int .i64 30, .bool true] ?_ ?_)
      · refine stpx (fun _ _ => ex_move _) ?_
        refine stpx (fun _ _ => ex_neqi rfl rfl _ rfl) ?_
        exact GSteps.nil
      intro w130 hb130
      refine th_r ?_
      have A131 := A128.keep hb130.out
      have HB132 := below_then HB129 hb130.out
      refine wp_cond_true rfl ?_
      refine wp_seq (region_0 [59, 60, 61, 62, 63, 64, 65, 66, 67, 68, 69, 4] [.bool true, .bool true, .int .i64 30, .int .i64 30, .bool true, .bool true, .bool true, sv [.n 6 0, .n 6 0, .n 6 0, .n 6 0, .b false], sv [.n 6 0, .n 6 0, .n 6 0, .n 6 0, .b false], .bool true, .bool true, .bool true] ?_ ?_)
      · refine stpc (.bool true) (fun γ w => ex_call (vs := []) rfl Tryz.call20 rfl) (fun w h => sumalive_v _) ?_
        refine stpx (fun _ _ => ex_move _) ?_
        refine stpx (fun _ _ => ex_move _) ?_
        refine stpx (fun _ _ => ex_move _) ?_
        refine stpx (fun _ _ => ex_eqi rfl rfl _ rfl) ?_
        refine stpx (fun _ _ => ex_pick (r := true) rfl) ?_
        refine stpx (fun _ _ => ex_move _) ?_
        refine stpv (fun γ w h => ex_loads 0 5 (m := [.n 6 0, .n 6 0, .n 6 0, .n 6 0, .b false]) flG2 rfl rfl (A131.keep h.out) rfl rfl) ?_
        refine stpx (fun _ _ => ex_builds stG2 (l := [.n 6 0, .n 6 0, .n 6 0, .n 6 0, .b false]) (vs := []) rfl rfl) ?_
        refine stpx (fun _ _ => ex_eqs gdG2 eqG2 rfl rfl rfl (shG2_of zero_B zero_B zero_B zero_B) (shG2_of zero_B zero_B zero_B zero_B) true (by simp)) ?_
        refine stpx (fun _ _ => ex_pick (r := true) rfl) ?_
        refine stpx (fun _ _ => ex_assign _) ?_
        exact GSteps.nil
      intro w133 hb133
      refine th_r ?_
      have A134 := A131.keep hb133.out
      have HB135 := below_then HB132 hb133.out
      exact wp_ret (th_ret (bodyPost_ret (ret1 Tryz.results4 (res_tmp rfl)) rfl ⟨rfl, HB135⟩))
set_option maxRecDepth 20000 in
set_option maxHeartbeats 4000000 in
theorem sumTwos_cutT (m mk : Nat) (ap ak : Option Addr) (cp ck : Nat) (hmc : m ≤ cp) (h40 : 20 < m) (hs : m ≤ 4096) (X0 X1 Y0 Y1 : Nat → Nat) (I : Nat → Bool) (hXY : ∀ i, i < m → X0 i < fpB ∧ X1 i < fpB ∧ Y0 i < fpB ∧ Y1 i < fpB) (A : Nat → Nat) (HA : ∀ i, i < mk → A i < frB) (w : World) (HP : Row w ap 25 m (rw2T X0 X1 Y0 Y1 I)) (HK : Row w ak 4 mk (fun i => [.n 4 (A i)])) :
    Calls Tryz.prog 4 #[.slice ap m cp, .slice ak mk ck] w (Is (.bool true) w) := by
  have hmin : ((20 : Nat) : Int) = min ((20 : Nat) : Int) 4096 := by omega
  go_enter Tryz.func4, Tryz.ntmps4
  refine wp_seq (region_0 [4] [.bool false] ?_ ?_)
  · refine stpx (fun _ _ => ex_assign _) ?_
    exact GSteps.nil
  intro w1 hb1
  refine th_r ?_
  have HB2 := below_then (Below.refl w.heap.size w) hb1.out
  refine wp_seq ?_
  refine wp_seq (region_0 [18, 19, 20, 21, 22, 23, 24, 25] [.slice ap m cp, .int .i64 ((m : Nat) : Int), .bool true, .bool true, .slice ap m cp, .int .i64 ((m : Nat) : Int), .bool true, .bool true] ?_ ?_)
  · refine stpx (fun _ _ => ex_move _) ?_
    refine stpx (fun _ _ => ex_lenR slP2 (m := m) rfl) ?_
    refine stpx (fun _ _ => ex_igtr rfl rfl true (by rw [eq_comm, decide_eq_true_eq]; omega)) ?_
    refine stpx (fun _ _ => ex_move _) ?_
    refine stpx (fun _ _ => ex_move _) ?_
    refine stpx (fun _ _ => ex_lenR slP2 (m := m) rfl) ?_
    refine stpx (fun _ _ => ex_ileqST rfl rfl true (by rw [eq_comm, decide_eq_true_eq]; omega)) ?_
    refine stpx (fun _ _ => ex_pick (r := true) rfl) ?_
    exact GSteps.nil
  intro w3 hb3
  refine th_r ?_
  have HB4 := below_then HB2 hb3.out
  refine wp_cond_true rfl ?_
  refine wp_region_lit ?_
  refine sv1 (.slice ap m cp) (ex_move _) ?_
  refine sv1 (.slice ap 20 cp) (ex_cutNT slP2 (a := ap) (m := m) (c := cp) (k := 20) rfl rfl (by omega)) ?_
  refine sv1 (.slice ap 20 cp) (ex_assign _) ?_
  refine wpList_nil ?_
  refine th_r ?_
  refine wp_seq (region_0 [5] [.bool false] ?_ ?_)
  · refine stpx (fun _ _ => ex_assign _) ?_
    exact GSteps.nil
  intro w5 hb5
  refine th_r ?_
  have HB6 := below_then HB4 hb5.out
  refine wp_seq ?_
  refine wp_seq (region_0 [28, 29, 30, 31, 32, 33, 34] [.slice ap 20 cp, .slice ap 20 cp, .int .i64 ((20 : Nat) : Int), .int .i64 ((20 : Nat) : Int), .slice ap 20 cp, .int .i64 ((20 : Nat) : Int), .int .i64 0] ?_ ?_)
  · refine stpx (fun _ _ => ex_move _) ?_
    refine stpx (fun _ _ => ex_move _) ?_
    refine stpx (fun _ _ => ex_lenR slP2 (m := 20) rfl) ?_
    refine stpx (fun _ _ => ex_iminrT rfl rfl _ hmin) ?_
    refine stpx (fun _ _ => ex_cutNT slP2 (a := ap) (m := 20) (c := cp) (k := 20) rfl rfl (by omega)) ?_
    refine stpx (fun _ _ => ex_lenR slP2 (m := 20) rfl) ?_
    refine stpx (fun _ _ => ex_move _) ?_
    exact GSteps.nil
  intro w7 hb7
  refine th_r ?_
  have HB8 := below_then HB6 hb7.out
  refine wp_block ?_
  refine wp_loop_by (20) (fun q_ a_ v_ => ∃ j7 j35 j36 j37 j38 j39 j40 j41 j42 j43 j44 : Value, a_ = ⟨List.toArray ((.slice ap 20 cp) :: (.slice ak mk ck) :: undef :: undef :: (.bool false) :: (.bool ((wrBT X0 X1 Y0 Y1 I q_))) :: undef :: j7 :: undef :: undef :: undef :: undef :: undef :: undef :: undef :: undef :: undef :: undef :: (.slice ap m cp) :: (.int .i64 ((m : Nat) : Int)) :: (.bool true) :: (.bool true) :: (.slice ap m cp) :: (.int .i64 ((m : Nat) : Int)) :: (.bool true) :: (.bool true) :: (.slice ap m cp) :: (.slice ap 20 cp) :: (.slice ap 20 cp) :: (.slice ap 20 cp) :: (.int .i64 ((20 : Nat) : Int)) :: (.int .i64 ((20 : Nat) : Int)) :: (.slice ap 20 cp) :: (.int .i64 ((20 : Nat) : Int)) :: (.int .i64 ((q_ : Nat) : Int)) :: j35 :: j36 :: j37 :: j38 :: j39 :: j40 :: j41 :: j42 :: j43 :: j44 :: undef :: undef :: undef :: undef :: undef :: undef :: undef :: undef :: undef :: undef :: undef :: undef :: undef :: undef :: undef :: undef :: undef :: undef :: undef :: undef :: undef :: undef :: undef :: undef :: undef :: undef :: undef :: undef :: undef :: undef :: undef :: undef :: undef :: undef :: undef :: undef :: undef :: undef :: undef :: undef :: undef :: undef :: undef :: undef :: undef :: undef :: undef :: undef :: undef :: undef :: undef :: undef :: undef :: undef :: undef :: undef :: undef :: undef :: undef :: undef :: undef :: undef :: undef :: undef :: undef :: undef :: []), []⟩ ∧ Below w.heap.size w v_) ⟨_, _, _, _, _, _, _, _, _, _, _, rfl, HB8⟩ ?_ ?_
  · intro k9 hk9
    rintro _ w9 ⟨i9_7, i9_35, i9_36, i9_37, i9_38, i9_39, i9_40, i9_41, i9_42, i9_43, i9_44, rfl, HB9⟩ K9 hK9
    have hq := hk9
    have hqm : k9 < m := by omega
    refine wp_seq (region_0 [35] [.bool true] ?_ ?_)
    · refine stpx (fun _ _ => ex_ilss rfl rfl true (by rw [eq_comm, decide_eq_true_eq]; omega)) ?_
      exact GSteps.nil
    intro w10 hb10
    refine th_r ?_
    have HB11 := below_then HB9 hb10.out
    refine wp_seq ?_
    refine wp_cond_true rfl ?_
    refine wp_skip ?_
    refine th_r ?_
    refine wp_seq ?_
    refine wp_block ?_
    obtain ⟨g12, o12, ha12, lg12, hr12⟩ := (HP.keep HB11) k9 hqm
    skip
    · refine wp_seq (region_c 1 (fun _ => 30) (fun _ => 2) (fun _ => 3) (fun _ => segs [.n 6 0, .n 6 0, .n 6 0, .n 6 0, .b false]) (fun _ => segs [.n 6 ((X0 k9)), .n 6 ((X1 k9)), .n 6 ((Y0 k9)), .n 6 ((Y1 k9)), .b ((I k9))]) [36, 37, 7] (fun γ => [.pointer (some ⟨g12, o12 + 25 * k9, none⟩), sv [.n 6 ((X0 k9)), .n 6 ((X1 k9)), .n 6 ((Y0 k9)), .n 6 ((Y1 k9)), .b ((I k9))], .pointer (some ⟨γ 0, 0, none⟩)]) ?_ ?_)
      · refine stpx (fun _ _ => ex_idxR slP2 (a := ap) (m := 20) (c := cp) (i := k9) rfl ha12 rfl hq) ?_
        refine stpv (fun γ w h => ex_loadR (l := [.n 6 ((X0 k9)), .n 6 ((X1 k9)), .n 6 ((Y0 k9)), .n 6 ((Y1 k9)), .b ((I k9))]) flG2 rfl rfl (range_keep lg12 h.out hr12)) ?_
        refine GSteps.cons (gm_new 0 rfl (fun _ => rfl) (fun _ _ => rfl) (fun γ w => ex_allocs (l := [.n 6 0, .n 6 0, .n 6 0, .n 6 0, .b false]) zG2) rfl (by kernel_rfl)) ?_
        refine GSteps.cons (gm_store 0 rfl rfl (fun _ => rfl) (len_segs (l := [.n 6 ((X0 k9)), .n 6 ((X1 k9)), .n 6 ((Y0 k9)), .n 6 ((Y1 k9)), .b ((I k9))]) (l' := [.n 6 0, .n 6 0, .n 6 0, .n 6 0, .b false]) rfl) (fun γ w h => ex_stores 0 5 (l := [.n 6 0, .n 6 0, .n 6 0, .n 6 0, .b false]) (m := [.n 6 ((X0 k9)), .n 6 ((X1 k9)), .n 6 ((Y0 k9)), .n 6 ((Y1 k9)), .b ((I k9))]) flG2.2 rfl rfl rfl rfl h rfl rfl) rfl rfl (by kernel_rfl)) ?_
        exact GSteps.nil
      intro γ13 w13 hb13 hB13 _
      refine th_r ?_
      have A14 : SB 30 w13 (γ13 0) [.n 6 ((X0 k9)), .n 6 ((X1 k9)), .n 6 ((Y0 k9)), .n 6 ((Y1 k9)), .b ((I k9))] := (hB13 0 (by decide)).2
      have le14 := (hB13 0 (by decide)).1
      have HB15 := below_then HB11 hb13.out
      rcases wr_casesT X0 X1 Y0 Y1 I k9 with hw | ⟨hw, hr⟩ | ⟨hw, hr⟩
      · rw [hw]
        refine wp_region_lit ?_
        refine sv1 (.bool true) (ex_move _) ?_
        refine sv1 (.bool true) (ex_move _) ?_
        refine sq_skip (a' := ⟨List.toArray ((.slice ap 20 cp) :: (.slice ak mk ck) :: undef :: undef :: (.bool false) :: (.bool true) :: undef :: (.pointer (some ⟨(γ13 0), 0, none⟩)) :: undef :: undef :: undef :: undef :: undef :: undef :: undef :: undef :: undef :: undef :: (.slice ap m cp) :: (.int .i64 ((m : Nat) : Int)) :: (.bool true) :: (.bool true) :: (.slice ap m cp) :: (.int .i64 ((m : Nat) : Int)) :: (.bool true) :: (.bool true) :: (.slice ap m cp) :: (.slice ap 20 cp) :: (.slice ap 20 cp) :: (.slice ap 20 cp) :: (.int .i64 ((20 : Nat) : Int)) :: (.int .i64 ((20 : Nat) : Int)) :: (.slice ap 20 cp) :: (.int .i64 ((20 : Nat) : Int)) :: (.int .i64 ((k9 : Nat) : Int)) :: (.bool true) :: (.pointer (some ⟨g12, o12 + 25 * k9, none⟩)) :: (sv [.n 6 ((X0 k9)), .n 6 ((X1 k9)), .n 6 ((Y0 k9)), .n 6 ((Y1 k9)), .b ((I k9))]) :: (.bool true) :: (.bool true) :: undef :: i9_41 :: i9_42 :: i9_43 :: i9_44 :: undef :: undef :: undef :: undef :: undef :: undef :: undef :: undef :: undef :: undef :: undef :: undef :: undef :: undef :: undef :: undef :: undef :: undef :: undef :: undef :: undef :: undef :: undef :: undef :: undef :: undef :: undef :: undef :: undef :: undef :: undef :: undef :: undef :: undef :: undef :: undef :: undef :: undef :: undef :: undef :: undef :: undef :: undef :: undef :: undef :: undef :: undef :: undef :: undef :: undef :: undef :: undef :: undef :: undef :: undef :: undef :: undef :: undef :: undef :: undef :: undef :: undef :: undef :: undef :: undef :: undef :: []), []⟩) rfl rfl ?_
        refine sq_skip (a' := ⟨List.toArray ((.slice ap 20 cp) :: (.slice ak mk ck) :: undef :: undef :: (.bool false) :: (.bool true) :: undef :: (.pointer (some ⟨(γ13 0), 0, none⟩)) :: undef :: undef :: undef :: undef :: undef :: undef :: undef :: undef :: undef :: undef :: (.slice ap m cp) :: (.int .i64 ((m : Nat) : Int)) :: (.bool true) :: (.bool true) :: (.slice ap m cp) :: (.int .i64 ((m : Nat) : Int)) :: (.bool true) :: (.bool true) :: (.slice ap m cp) :: (.slice ap 20 cp) :: (.slice ap 20 cp) :: (.slice ap 20 cp) :: (.int .i64 ((20 : Nat) : Int)) :: (.int .i64 ((20 : Nat) : Int)) :: (.slice ap 20 cp) :: (.int .i64 ((20 : Nat) : Int)) :: (.int .i64 ((k9 : Nat) : Int)) :: (.bool true) :: (.pointer (some ⟨g12, o12 + 25 * k9, none⟩)) :: (sv [.n 6 ((X0 k9)), .n 6 ((X1 k9)), .n 6 ((Y0 k9)), .n 6 ((Y1 k9)), .b ((I k9))]) :: (.bool true) :: (.bool true) :: undef :: undef :: i9_42 :: i9_43 :: i9_44 :: undef :: undef :: undef :: undef :: undef :: undef :: undef :: undef :: undef :: undef :: undef :: undef :: undef :: undef :: undef :: undef :: undef :: undef :: undef :: undef :: undef :: undef :: undef :: undef :: undef :: undef :: undef :: undef :: undef :: undef :: undef :: undef :: undef :: undef :: undef :: undef :: undef :: undef :: undef :: undef :: undef :: undef :: undef :: undef :: undef :: undef :: undef :: undef :: undef :: undef :: undef :: undef :: undef :: undef :: undef :: undef :: undef :: undef :: undef :: undef :: undef :: undef :: undef :: undef :: undef :: undef :: []), []⟩) rfl rfl ?_
        refine sq_skip (a' := ⟨List.toArray ((.slice ap 20 cp) :: (.slice ak mk ck) :: undef :: undef :: (.bool false) :: (.bool true) :: undef :: (.pointer (some ⟨(γ13 0), 0, none⟩)) :: undef :: undef :: undef :: undef :: undef :: undef :: undef :: undef :: undef :: undef :: (.slice ap m cp) :: (.int .i64 ((m : Nat) : Int)) :: (.bool true) :: (.bool true) :: (.slice ap m cp) :: (.int .i64 ((m : Nat) : Int)) :: (.bool true) :: (.bool true) :: (.slice ap m cp) :: (.slice ap 20 cp) :: (.slice ap 20 cp) :: (.slice ap 20 cp) :: (.int .i64 ((20 : Nat) : Int)) :: (.int .i64 ((20 : Nat) : Int)) :: (.slice ap 20 cp) :: (.int .i64 ((20 : Nat) : Int)) :: (.int .i64 ((k9 : Nat) : Int)) :: (.bool true) :: (.pointer (some ⟨g12, o12 + 25 * k9, none⟩)) :: (sv [.n 6 ((X0 k9)), .n 6 ((X1 k9)), .n 6 ((Y0 k9)), .n 6 ((Y1 k9)), .b ((I k9))]) :: (.bool true) :: (.bool true) :: undef :: undef :: undef :: i9_43 :: i9_44 :: undef :: undef :: undef :: undef :: undef :: undef :: undef :: undef :: undef :: undef :: undef :: undef :: undef :: undef :: undef :: undef :: undef :: undef :: undef :: undef :: undef :: undef :: undef :: undef :: undef :: undef :: undef :: undef :: undef :: undef :: undef :: undef :: undef :: undef :: undef :: undef :: undef :: undef :: undef :: undef :: undef :: undef :: undef :: undef :: undef :: undef :: undef :: undef :: undef :: undef :: undef :: undef :: undef :: undef :: undef :: undef :: undef :: undef :: undef :: undef :: undef :: undef :: undef :: undef :: undef :: undef :: []), []⟩) rfl rfl ?_
        refine sv1 (.bool true) (ex_pick (r := true) rfl) ?_
        refine sv1 (.bool true) (ex_assign _) ?_
        refine wpList_nil ?_
        refine bk_n ?_
        refine th_r ?_
        refine wp_region_lit ?_
        refine sv1 (.int .i64 ((k9 + 1 : Nat) : Int)) (ex_iadd rfl rfl ((k9 + 1 : Nat) : Int) (cnt_up (by omega))) ?_
        refine sv1 (.int .i64 ((k9 + 1 : Nat) : Int)) (ex_move _) ?_
        refine wpList_nil ?_
        refine th_r ?_
        exact hK9.out _ _ ⟨_, _, _, _, _, _, _, _, _, _, _, (by rw [wr_1T hw]), HB15⟩
      · rw [hw]
        refine wp_region_lit ?_
        refine sv1 (.bool false) (ex_move _) ?_
        refine sv1 (.bool false) (ex_move _) ?_
        refine sv1 (sv [.n 6 ((X0 k9)), .n 6 ((X1 k9)), .n 6 ((Y0 k9)), .n 6 ((Y1 k9)), .b ((I k9))]) (ex_loads 0 5 (m := [.n 6 ((X0 k9)), .n 6 ((X1 k9)), .n 6 ((Y0 k9)), .n 6 ((Y1 k9)), .b ((I k9))]) flG2 rfl rfl A14 rfl rfl) ?_
        refine sc1 (.bool true) (ex_call (vs := [sv [.n 6 ((X0 k9)), .n 6 ((X1 k9)), .n 6 ((Y0 k9)), .n 6 ((Y1 k9)), .b ((I k9))]]) rfl Tryz.call17 rfl) (twoRight_okT hr _) ?_
        intro w23 hb23
        have A24 := A14.keep hb23
        have HB25 := below_then HB15 hb23
        refine sv1 (.bool false) (ex_not (r := true) rfl) ?_
        refine sv1 (.bool false) (ex_pick (r := false) rfl) ?_
        refine sv1 (.bool false) (ex_assign _) ?_
        refine wpList_nil ?_
        refine bk_n ?_
        refine th_r ?_
        refine wp_region_lit ?_
        refine sv1 (.int .i64 ((k9 + 1 : Nat) : Int)) (ex_iadd rfl rfl ((k9 + 1 : Nat) : Int) (cnt_up (by omega))) ?_
        refine sv1 (.int .i64 ((k9 + 1 : Nat) : Int)) (ex_move _) ?_
        refine wpList_nil ?_
        refine th_r ?_
        exact hK9.out _ _ ⟨_, _, _, _, _, _, _, _, _, _, _, (by rw [wr_2T hw hr]), HB25⟩
      · rw [hw]
        refine wp_region_lit ?_
        refine sv1 (.bool false) (ex_move _) ?_
        refine sv1 (.bool false) (ex_move _) ?_
        refine sv1 (sv [.n 6 ((X0 k9)), .n 6 ((X1 k9)), .n 6 ((Y0 k9)), .n 6 ((Y1 k9)), .b ((I k9))]) (ex_loads 0 5 (m := [.n 6 ((X0 k9)), .n 6 ((X1 k9)), .n 6 ((Y0 k9)), .n 6 ((Y1 k9)), .b ((I k9))]) flG2 rfl rfl A14 rfl rfl) ?_
        refine sc1 (.bool false) (ex_call (vs := [sv [.n 6 ((X0 k9)), .n 6 ((X1 k9)), .n 6 ((Y0 k9)), .n 6 ((Y1 k9)), .b ((I k9))]]) rfl Tryz.call17 rfl) (twoRight_no (hXY k9 hqm).1 (hXY k9 hqm).2.1 (hXY k9 hqm).2.2.1 (hXY k9 hqm).2.2.2 hr _) ?_
        intro w32 hb32
        have A33 := A14.keep hb32
        have HB34 := below_then HB15 hb32
        refine sv1 (.bool true) (ex_not (r := false) rfl) ?_
        refine sv1 (.bool true) (ex_pick (r := false) rfl) ?_
        refine sv1 (.bool true) (ex_assign _) ?_
        refine wpList_nil ?_
        refine bk_n ?_
        refine th_r ?_
        refine wp_region_lit ?_
        refine sv1 (.int .i64 ((k9 + 1 : Nat) : Int)) (ex_iadd rfl rfl ((k9 + 1 : Nat) : Int) (cnt_up (by omega))) ?_
        refine sv1 (.int .i64 ((k9 + 1 : Nat) : Int)) (ex_move _) ?_
        refine wpList_nil ?_
        refine th_r ?_
        exact hK9.out _ _ ⟨_, _, _, _, _, _, _, _, _, _, _, (by rw [wr_3T hw hr]), HB34⟩
  · rintro _ w38 ⟨i38_7, i38_35, i38_36, i38_37, i38_38, i38_39, i38_40, i38_41, i38_42, i38_43, i38_44, rfl, HB38⟩ K38
    refine wp_seq (region_0 [35] [.bool false] ?_ ?_)
    · refine stpx (fun _ _ => ex_ilss rfl rfl false (by rw [eq_comm, decide_eq_false_iff_not]; omega)) ?_
      exact GSteps.nil
    intro w39 hb39
    refine th_r ?_
    have HB40 := below_then HB38 hb39.out
    refine wp_seq ?_
    refine wp_cond_false rfl ?_
    refine wp_exit (th_e (th_e (bk_e ?_)))
    refine th_r ?_
    rcases outcomesT 20 mk (wrBT X0 X1 Y0 Y1 I 20) with hne | ⟨he, hw⟩ | ⟨he, hw⟩
    · refine wp_seq (region_c 1 (fun _ => 30) (fun _ => 6) (fun _ => 7) (fun _ => segs [.n 6 0, .n 6 0, .n 6 0, .n 6 0, .b false]) (fun _ => segs [.n 6 0, .n 6 0, .n 6 0, .n 6 0, .b false]) [46, 47, 48, 45, 49, 50, 8, 9] (fun γ => [.slice ap 20 cp, .slice ak mk ck, .tuple #[sv [.n 6 0, .n 6 0, .n 6 0, .n 6 0, .b false], .int .i64 3], .tuple #[sv [.n 6 0, .n 6 0, .n 6 0, .n 6 0, .b false], .int .i64 3], sv [.n 6 0, .n 6 0, .n 6 0, .n 6 0, .b false], .int .i64 3, .pointer (some ⟨γ 0, 0, none⟩), .int .i64 3]) ?_ ?_)
      · refine stpx (fun _ _ => ex_move _) ?_
        refine stpx (fun _ _ => ex_move _) ?_
        refine stpc (.tuple #[sv [.n 6 0, .n 6 0, .n 6 0, .n 6 0, .b false], .int .i64 3]) (fun γ w => ex_call (vs := [.slice ap 20 cp, .slice ak mk ck]) rfl Tryz.call18 rfl) (fun w h => sumErr2_lenT 20 mk ap ak cp ck hne _) ?_
        refine stpx (fun _ _ => ex_move _) ?_
        refine stpx (fun _ _ => ex_extract (vs := [sv [.n 6 0, .n 6 0, .n 6 0, .n 6 0, .b false], .int .i64 3]) rfl rfl) ?_
        refine stpx (fun _ _ => ex_extract (vs := [sv [.n 6 0, .n 6 0, .n 6 0, .n 6 0, .b false], .int .i64 3]) rfl rfl) ?_
        refine GSteps.cons (gm_new 0 rfl (fun _ => rfl) (fun _ _ => rfl) (fun γ w => ex_allocs (l := [.n 6 0, .n 6 0, .n 6 0, .n 6 0, .b false]) zG2) rfl (by kernel_rfl)) ?_
        refine GSteps.cons (gm_store 0 rfl rfl (fun _ => rfl) (len_segs (l := [.n 6 0, .n 6 0, .n 6 0, .n 6 0, .b false]) (l' := [.n 6 0, .n 6 0, .n 6 0, .n 6 0, .b false]) rfl) (fun γ w h => ex_stores 0 5 (l := [.n 6 0, .n 6 0, .n 6 0, .n 6 0, .b false]) (m := [.n 6 0, .n 6 0, .n 6 0, .n 6 0, .b false]) flG2.2 rfl rfl rfl rfl h rfl rfl) rfl rfl (by kernel_rfl)) ?_
        refine stpx (fun _ _ => ex_assign _) ?_
        exact GSteps.nil
      intro γ41 w41 hb41 hB41 _
      refine th_r ?_
      have A42 : SB 30 w41 (γ41 0) [.n 6 0, .n 6 0, .n 6 0, .n 6 0, .b false] := (hB41 0 (by decide)).2
      have le42 := (hB41 0 (by decide)).1
      have HB43 := below_then HB40 hb41.out
      refine wp_seq ?_
      refine wp_seq (region_0 [51, 52, 53, 54, 55, 56, 10] [.slice ap 20 cp, .int .i64 ((20 : Nat) : Int), .slice ak mk ck, .int .i64 ((mk : Nat) : Int), .bool ((wrBT X0 X1 Y0 Y1 I 20)), .int .i64 3, .int .i64 3] ?_ ?_)
      · refine stpx (fun _ _ => ex_move _) ?_
        refine stpx (fun _ _ => ex_lenR slP2 (m := 20) rfl) ?_
        refine stpx (fun _ _ => ex_move _) ?_
        refine stpx (fun _ _ => ex_lenR slR2 (m := mk) rfl) ?_
        refine stpx (fun _ _ => ex_move _) ?_
        refine stpc (.int .i64 3) (fun γ w => ex_call (vs := [.int .i64 ((20 : Nat) : Int), .int .i64 ((mk : Nat) : Int), .bool ((wrBT X0 X1 Y0 Y1 I 20))]) rfl Tryz.call19 rfl) (fun w h => sumbad_lenT 20 mk (wrBT X0 X1 Y0 Y1 I 20) hne _) ?_
        refine stpx (fun _ _ => ex_assign _) ?_
        exact GSteps.nil
      intro w44 hb44
      refine th_r ?_
      have A45 := A42.keep hb44.out
      have HB46 := below_then HB43 hb44.out
      refine wp_seq (region_0 [57, 58] [.int .i64 3, .bool true] ?_ ?_)
      · refine stpx (fun _ _ => ex_move _) ?_
        refine stpx (fun _ _ => ex_neqi rfl rfl _ rfl) ?_
        exact GSteps.nil
      intro w47 hb47
      refine th_r ?_
      have A48 := A45.keep hb47.out
      have HB49 := below_then HB46 hb47.out
      refine wp_cond_true rfl ?_
      refine wp_seq (region_0 [59, 60, 61, 62, 63, 64, 65, 66, 67, 68, 69, 4] [.bool true, .bool true, .int .i64 3, .int .i64 3, .bool true, .bool true, .bool true, sv [.n 6 0, .n 6 0, .n 6 0, .n 6 0, .b false], sv [.n 6 0, .n 6 0, .n 6 0, .n 6 0, .b false], .bool true, .bool true, .bool true] ?_ ?_)
      · refine stpc (.bool true) (fun γ w => ex_call (vs := []) rfl Tryz.call20 rfl) (fun w h => sumalive_v _) ?_
        refine stpx (fun _ _ => ex_move _) ?_
        refine stpx (fun _ _ => ex_move _) ?_
        refine stpx (fun _ _ => ex_move _) ?_
        refine stpx (fun _ _ => ex_eqi rfl rfl _ rfl) ?_
        refine stpx (fun _ _ => ex_pick (r := true) rfl) ?_
        refine stpx (fun _ _ => ex_move _) ?_
        refine stpv (fun γ w h => ex_loads 0 5 (m := [.n 6 0, .n 6 0, .n 6 0, .n 6 0, .b false]) flG2 rfl rfl (A48.keep h.out) rfl rfl) ?_
        refine stpx (fun _ _ => ex_builds stG2 (l := [.n 6 0, .n 6 0, .n 6 0, .n 6 0, .b false]) (vs := []) rfl rfl) ?_
        refine stpx (fun _ _ => ex_eqs gdG2 eqG2 rfl rfl rfl (shG2_of zero_B zero_B zero_B zero_B) (shG2_of zero_B zero_B zero_B zero_B) true (by simp)) ?_
        refine stpx (fun _ _ => ex_pick (r := true) rfl) ?_
        refine stpx (fun _ _ => ex_assign _) ?_
        exact GSteps.nil
      intro w50 hb50
      refine th_r ?_
      have A51 := A48.keep hb50.out
      have HB52 := below_then HB49 hb50.out
      exact wp_ret (th_ret (bodyPost_ret (ret1 Tryz.results4 (res_tmp rfl)) rfl ⟨rfl, HB52⟩))
    · subst he
      rw [hw]
      obtain ⟨S, hS⟩ := ok_pointsT (wr_noT hw)
      have HS : Row w ap 25 20 (fun i => pt2 (S i)) := (HP.less (by omega)).ext hS
      refine wp_seq (region_c 1 (fun _ => 30) (fun _ => 6) (fun _ => 7) (fun _ => segs [.n 6 0, .n 6 0, .n 6 0, .n 6 0, .b false]) (fun _ => segs [.n 6 (bx0 (((sumE2 S A 20)).pt)), .n 6 (bx1 (((sumE2 S A 20)).pt)), .n 6 (by0 (((sumE2 S A 20)).pt)), .n 6 (by1 (((sumE2 S A 20)).pt)), .b (bi (((sumE2 S A 20)).pt))]) [46, 47, 48, 45, 49, 50, 8, 9] (fun γ => [.slice ap 20 cp, .slice ak 20 ck, .tuple #[sv [.n 6 (bx0 (((sumE2 S A 20)).pt)), .n 6 (bx1 (((sumE2 S A 20)).pt)), .n 6 (by0 (((sumE2 S A 20)).pt)), .n 6 (by1 (((sumE2 S A 20)).pt)), .b (bi (((sumE2 S A 20)).pt))], .int .i64 0], .tuple #[sv [.n 6 (bx0 (((sumE2 S A 20)).pt)), .n 6 (bx1 (((sumE2 S A 20)).pt)), .n 6 (by0 (((sumE2 S A 20)).pt)), .n 6 (by1 (((sumE2 S A 20)).pt)), .b (bi (((sumE2 S A 20)).pt))], .int .i64 0], sv [.n 6 (bx0 (((sumE2 S A 20)).pt)), .n 6 (bx1 (((sumE2 S A 20)).pt)), .n 6 (by0 (((sumE2 S A 20)).pt)), .n 6 (by1 (((sumE2 S A 20)).pt)), .b (bi (((sumE2 S A 20)).pt))], .int .i64 0, .pointer (some ⟨γ 0, 0, none⟩), .int .i64 0]) ?_ ?_)
      · refine stpx (fun _ _ => ex_move _) ?_
        refine stpx (fun _ _ => ex_move _) ?_
        refine stpc (.tuple #[sv [.n 6 (bx0 (((sumE2 S A 20)).pt)), .n 6 (bx1 (((sumE2 S A 20)).pt)), .n 6 (by0 (((sumE2 S A 20)).pt)), .n 6 (by1 (((sumE2 S A 20)).pt)), .b (bi (((sumE2 S A 20)).pt))], .int .i64 0]) (fun γ w => ex_call (vs := [.slice ap 20 cp, .slice ak 20 ck]) rfl Tryz.call18 rfl) (fun w h => sumAny2_pT 20 (by decide) S A ap ak cp ck HA _ (HS.keep (below_here HB40 h)) (HK.keep (below_here HB40 h))) ?_
        refine stpx (fun _ _ => ex_move _) ?_
        refine stpx (fun _ _ => ex_extract (vs := [sv [.n 6 (bx0 (((sumE2 S A 20)).pt)), .n 6 (bx1 (((sumE2 S A 20)).pt)), .n 6 (by0 (((sumE2 S A 20)).pt)), .n 6 (by1 (((sumE2 S A 20)).pt)), .b (bi (((sumE2 S A 20)).pt))], .int .i64 0]) rfl rfl) ?_
        refine stpx (fun _ _ => ex_extract (vs := [sv [.n 6 (bx0 (((sumE2 S A 20)).pt)), .n 6 (bx1 (((sumE2 S A 20)).pt)), .n 6 (by0 (((sumE2 S A 20)).pt)), .n 6 (by1 (((sumE2 S A 20)).pt)), .b (bi (((sumE2 S A 20)).pt))], .int .i64 0]) rfl rfl) ?_
        refine GSteps.cons (gm_new 0 rfl (fun _ => rfl) (fun _ _ => rfl) (fun γ w => ex_allocs (l := [.n 6 0, .n 6 0, .n 6 0, .n 6 0, .b false]) zG2) rfl (by kernel_rfl)) ?_
        refine GSteps.cons (gm_store 0 rfl rfl (fun _ => rfl) (len_segs (l := [.n 6 (bx0 (((sumE2 S A 20)).pt)), .n 6 (bx1 (((sumE2 S A 20)).pt)), .n 6 (by0 (((sumE2 S A 20)).pt)), .n 6 (by1 (((sumE2 S A 20)).pt)), .b (bi (((sumE2 S A 20)).pt))]) (l' := [.n 6 0, .n 6 0, .n 6 0, .n 6 0, .b false]) rfl) (fun γ w h => ex_stores 0 5 (l := [.n 6 0, .n 6 0, .n 6 0, .n 6 0, .b false]) (m := [.n 6 (bx0 (((sumE2 S A 20)).pt)), .n 6 (bx1 (((sumE2 S A 20)).pt)), .n 6 (by0 (((sumE2 S A 20)).pt)), .n 6 (by1 (((sumE2 S A 20)).pt)), .b (bi (((sumE2 S A 20)).pt))]) flG2.2 rfl rfl rfl rfl h rfl rfl) rfl rfl (by kernel_rfl)) ?_
        refine stpx (fun _ _ => ex_assign _) ?_
        exact GSteps.nil
      intro γ53 w53 hb53 hB53 _
      refine th_r ?_
      have A54 : SB 30 w53 (γ53 0) [.n 6 (bx0 (((sumE2 S A 20)).pt)), .n 6 (bx1 (((sumE2 S A 20)).pt)), .n 6 (by0 (((sumE2 S A 20)).pt)), .n 6 (by1 (((sumE2 S A 20)).pt)), .b (bi (((sumE2 S A 20)).pt))] := (hB53 0 (by decide)).2
      have le54 := (hB53 0 (by decide)).1
      have HB55 := below_then HB40 hb53.out
      refine wp_seq ?_
      refine wp_seq (region_0 [51, 52, 53, 54, 55, 56, 10] [.slice ap 20 cp, .int .i64 ((20 : Nat) : Int), .slice ak 20 ck, .int .i64 ((20 : Nat) : Int), .bool false, .int .i64 0, .int .i64 0] ?_ ?_)
      · refine stpx (fun _ _ => ex_move _) ?_
        refine stpx (fun _ _ => ex_lenR slP2 (m := 20) rfl) ?_
        refine stpx (fun _ _ => ex_move _) ?_
        refine stpx (fun _ _ => ex_lenR slR2 (m := 20) rfl) ?_
        refine stpx (fun _ _ => ex_move _) ?_
        refine stpc (.int .i64 0) (fun γ w => ex_call (vs := [.int .i64 ((20 : Nat) : Int), .int .i64 ((20 : Nat) : Int), .bool false]) rfl Tryz.call19 rfl) (fun w h => sumbad_okT 20 (by decide) _) ?_
        refine stpx (fun _ _ => ex_assign _) ?_
        exact GSteps.nil
      intro w56 hb56
      refine th_r ?_
      have A57 := A54.keep hb56.out
      have HB58 := below_then HB55 hb56.out
      refine wp_seq (region_0 [57, 58] [.int .i64 0, .bool false] ?_ ?_)
      · refine stpx (fun _ _ => ex_move _) ?_
        refine stpx (fun _ _ => ex_neqi rfl rfl _ rfl) ?_
        exact GSteps.nil
      intro w59 hb59
      refine th_r ?_
      have A60 := A57.keep hb59.out
      have HB61 := below_then HB58 hb59.out
      refine wp_cond_false rfl ?_
      refine wp_skip ?_
      refine th_r ?_
      refine wp_seq (region_c 1 (fun _ => 30) (fun _ => 1) (fun _ => 2) (fun _ => segs [.n 6 0, .n 6 0, .n 6 0, .n 6 0, .b false]) (fun _ => segs [.n 6 (bx0 Z2.pt), .n 6 (bx1 Z2.pt), .n 6 (by0 Z2.pt), .n 6 (by1 Z2.pt), .b (bi Z2.pt)]) [70, 11] (fun γ => [sv [.n 6 (bx0 Z2.pt), .n 6 (bx1 Z2.pt), .n 6 (by0 Z2.pt), .n 6 (by1 Z2.pt), .b (bi Z2.pt)], .pointer (some ⟨γ 0, 0, none⟩)]) ?_ ?_)
      · refine stpc (sv [.n 6 (bx0 Z2.pt), .n 6 (bx1 Z2.pt), .n 6 (by0 Z2.pt), .n 6 (by1 Z2.pt), .b (bi Z2.pt)]) (fun γ w => ex_call (vs := []) rfl Tryz.call21 rfl) (fun w h => twoZero_p _) ?_
        refine GSteps.cons (gm_new 0 rfl (fun _ => rfl) (fun _ _ => rfl) (fun γ w => ex_allocs (l := [.n 6 0, .n 6 0, .n 6 0, .n 6 0, .b false]) zG2) rfl (by kernel_rfl)) ?_
        refine GSteps.cons (gm_store 0 rfl rfl (fun _ => rfl) (len_segs (l := [.n 6 (bx0 Z2.pt), .n 6 (bx1 Z2.pt), .n 6 (by0 Z2.pt), .n 6 (by1 Z2.pt), .b (bi Z2.pt)]) (l' := [.n 6 0, .n 6 0, .n 6 0, .n 6 0, .b false]) rfl) (fun γ w h => ex_stores 0 5 (l := [.n 6 0, .n 6 0, .n 6 0, .n 6 0, .b false]) (m := [.n 6 (bx0 Z2.pt), .n 6 (bx1 Z2.pt), .n 6 (by0 Z2.pt), .n 6 (by1 Z2.pt), .b (bi Z2.pt)]) flG2.2 rfl rfl rfl rfl h rfl rfl) rfl rfl (by kernel_rfl)) ?_
        exact GSteps.nil
      intro γ62 w62 hb62 hB62 _
      refine th_r ?_
      have A63 := A60.keep hb62.out
      have A64 : SB 30 w62 (γ62 0) [.n 6 (bx0 Z2.pt), .n 6 (bx1 Z2.pt), .n 6 (by0 Z2.pt), .n 6 (by1 Z2.pt), .b (bi Z2.pt)] := (hB62 0 (by decide)).2
      have le64 := (hB62 0 (by decide)).1
      have HB65 := below_then HB61 hb62.out
      refine wp_seq ?_
      refine wp_seq (region_0 [71, 72, 73] [.slice ap 20 cp, .int .i64 ((20 : Nat) : Int), .int .i64 0] ?_ ?_)
      · refine stpx (fun _ _ => ex_move _) ?_
        refine stpx (fun _ _ => ex_lenR slP2 (m := 20) rfl) ?_
        refine stpx (fun _ _ => ex_move _) ?_
        exact GSteps.nil
      intro w66 hb66
      refine th_r ?_
      have A67 := A63.keep hb66.out
      have A68 := A64.keep hb66.out
      have HB69 := below_then HB65 hb66.out
      refine wp_block ?_
      refine wp_loop_by (20) (fun q_ a_ v_ => ∃ j4 j12 j13 j14 j15 j16 j17 j74 j75 j76 j77 j78 j79 j80 j81 j82 j83 j84 j85 j86 j87 j88 j89 j90 j91 j92 j93 j94 j95 j96 j97 j98 j99 j100 : Value, a_ = ⟨List.toArray ((.slice ap 20 cp) :: (.slice ak 20 ck) :: undef :: undef :: j4 :: (.bool false) :: undef :: i38_7 :: (.pointer (some ⟨(γ53 0), 0, none⟩)) :: (.int .i64 0) :: (.int .i64 0) :: (.pointer (some ⟨(γ62 0), 0, none⟩)) :: j12 :: j13 :: j14 :: j15 :: j16 :: j17 :: (.slice ap m cp) :: (.int .i64 ((m : Nat) : Int)) :: (.bool true) :: (.bool true) :: (.slice ap m cp) :: (.int .i64 ((m : Nat) : Int)) :: (.bool true) :: (.bool true) :: (.slice ap m cp) :: (.slice ap 20 cp) :: (.slice ap 20 cp) :: (.slice ap 20 cp) :: (.int .i64 ((20 : Nat) : Int)) :: (.int .i64 ((20 : Nat) : Int)) :: (.slice ap 20 cp) :: (.int .i64 ((20 : Nat) : Int)) :: (.int .i64 ((20 : Nat) : Int)) :: (.bool false) :: i38_36 :: i38_37 :: i38_38 :: i38_39 :: i38_40 :: i38_41 :: i38_42 :: i38_43 :: i38_44 :: (.tuple #[sv [.n 6 (bx0 (((sumE2 S A 20)).pt)), .n 6 (bx1 (((sumE2 S A 20)).pt)), .n 6 (by0 (((sumE2 S A 20)).pt)), .n 6 (by1 (((sumE2 S A 20)).pt)), .b (bi (((sumE2 S A 20)).pt))], .int .i64 0]) :: (.slice ap 20 cp) :: (.slice ak 20 ck) :: (.tuple #[sv [.n 6 (bx0 (((sumE2 S A 20)).pt)), .n 6 (bx1 (((sumE2 S A 20)).pt)), .n 6 (by0 (((sumE2 S A 20)).pt)), .n 6 (by1 (((sumE2 S A 20)).pt)), .b (bi (((sumE2 S A 20)).pt))], .int .i64 0]) :: (sv [.n 6 (bx0 (((sumE2 S A 20)).pt)), .n 6 (bx1 (((sumE2 S A 20)).pt)), .n 6 (by0 (((sumE2 S A 20)).pt)), .n 6 (by1 (((sumE2 S A 20)).pt)), .b (bi (((sumE2 S A 20)).pt))]) :: (.int .i64 0) :: (.slice ap 20 cp) :: (.int .i64 ((20 : Nat) : Int)) :: (.slice ak 20 ck) :: (.int .i64 ((20 : Nat) : Int)) :: (.bool false) :: (.int .i64 0) :: (.int .i64 0) :: (.bool false) :: undef :: undef :: undef :: undef :: undef :: undef :: undef :: undef :: undef :: undef :: undef :: (sv [.n 6 (bx0 Z2.pt), .n 6 (bx1 Z2.pt), .n 6 (by0 Z2.pt), .n 6 (by1 Z2.pt), .b (bi Z2.pt)]) :: (.slice ap 20 cp) :: (.int .i64 ((20 : Nat) : Int)) :: (.int .i64 ((q_ : Nat) : Int)) :: j74 :: j75 :: j76 :: j77 :: j78 :: j79 :: j80 :: j81 :: j82 :: j83 :: j84 :: j85 :: j86 :: j87 :: j88 :: j89 :: j90 :: j91 :: j92 :: j93 :: j94 :: j95 :: j96 :: j97 :: j98 :: j99 :: j100 :: undef :: undef :: undef :: undef :: undef :: undef :: undef :: undef :: undef :: undef :: []), []⟩ ∧ SB 30 v_ (γ53 0) [.n 6 (bx0 (((sumE2 S A 20)).pt)), .n 6 (bx1 (((sumE2 S A 20)).pt)), .n 6 (by0 (((sumE2 S A 20)).pt)), .n 6 (by1 (((sumE2 S A 20)).pt)), .b (bi (((sumE2 S A 20)).pt))] ∧ SB 30 v_ (γ62 0) [.n 6 (bx0 (((sumE2 S A q_)).pt)), .n 6 (bx1 (((sumE2 S A q_)).pt)), .n 6 (by0 (((sumE2 S A q_)).pt)), .n 6 (by1 (((sumE2 S A q_)).pt)), .b (bi (((sumE2 S A q_)).pt))] ∧ Below w.heap.size w v_) ⟨_, _, _, _, _, _, _, _, _, _, _, _, _, _, _, _, _, _, _, _, _, _, _, _, _, _, _, _, _, _, _, _, _, _, rfl, A67, A68, HB69⟩ ?_ ?_
      · intro k70 hk70
        rintro _ w70 ⟨i70_4, i70_12, i70_13, i70_14, i70_15, i70_16, i70_17, i70_74, i70_75, i70_76, i70_77, i70_78, i70_79, i70_80, i70_81, i70_82, i70_83, i70_84, i70_85, i70_86, i70_87, i70_88, i70_89, i70_90, i70_91, i70_92, i70_93, i70_94, i70_95, i70_96, i70_97, i70_98, i70_99, i70_100, rfl, A70_0, A70_1, HB70⟩ K70 hK70
        have hq := hk70
        refine wp_seq (region_0 [74] [.bool true] ?_ ?_)
        · refine stpx (fun _ _ => ex_ilss rfl rfl true (by rw [eq_comm, decide_eq_true_eq]; omega)) ?_
          exact GSteps.nil
        intro w71 hb71
        refine th_r ?_
        have A72 := A70_0.keep hb71.out
        have A73 := A70_1.keep hb71.out
        have HB74 := below_then HB70 hb71.out
        refine wp_seq ?_
        refine wp_cond_true rfl ?_
        refine wp_skip ?_
        refine th_r ?_
        refine wp_seq ?_
        refine wp_block ?_
        obtain ⟨g75, o75, ha75, lg75, hr75⟩ := (HS.keep HB74) k70 hq
        skip
        · refine wp_seq (region_c 1 (fun _ => 30) (fun _ => 3) (fun _ => 5) (fun _ => segs [.n 6 0, .n 6 0, .n 6 0, .n 6 0, .b false]) (fun _ => segs [.n 6 (bx0 (((S k70)).pt)), .n 6 (bx1 (((S k70)).pt)), .n 6 (by0 (((S k70)).pt)), .n 6 (by1 (((S k70)).pt)), .b (bi (((S k70)).pt))]) [75, 76, 77, 13, 12] (fun γ => [.int .i64 ((k70 : Nat) : Int), .pointer (some ⟨g75, o75 + 25 * k70, none⟩), sv [.n 6 (bx0 (((S k70)).pt)), .n 6 (bx1 (((S k70)).pt)), .n 6 (by0 (((S k70)).pt)), .n 6 (by1 (((S k70)).pt)), .b (bi (((S k70)).pt))], .pointer (some ⟨γ 0, 0, none⟩), .int .i64 ((k70 : Nat) : Int)]) ?_ ?_)
          · refine stpx (fun _ _ => ex_move _) ?_
            refine stpx (fun _ _ => ex_idxR slP2 (a := ap) (m := 20) (c := cp) (i := k70) rfl ha75 rfl hq) ?_
            refine stpv (fun γ w h => ex_loadR (l := [.n 6 (bx0 (((S k70)).pt)), .n 6 (bx1 (((S k70)).pt)), .n 6 (by0 (((S k70)).pt)), .n 6 (by1 (((S k70)).pt)), .b (bi (((S k70)).pt))]) flG2 rfl rfl (range_keep lg75 h.out hr75)) ?_
            refine GSteps.cons (gm_new 0 rfl (fun _ => rfl) (fun _ _ => rfl) (fun γ w => ex_allocs (l := [.n 6 0, .n 6 0, .n 6 0, .n 6 0, .b false]) zG2) rfl (by kernel_rfl)) ?_
            refine stpx (fun _ _ => ex_assign _) ?_
            refine GSteps.cons (gm_store 0 rfl rfl (fun _ => rfl) (len_segs (l := [.n 6 (bx0 (((S k70)).pt)), .n 6 (bx1 (((S k70)).pt)), .n 6 (by0 (((S k70)).pt)), .n 6 (by1 (((S k70)).pt)), .b (bi (((S k70)).pt))]) (l' := [.n 6 0, .n 6 0, .n 6 0, .n 6 0, .b false]) rfl) (fun γ w h => ex_stores 0 5 (l := [.n 6 0, .n 6 0, .n 6 0, .n 6 0, .b false]) (m := [.n 6 (bx0 (((S k70)).pt)), .n 6 (bx1 (((S k70)).pt)), .n 6 (by0 (((S k70)).pt)), .n 6 (by1 (((S k70)).pt)), .b (bi (((S k70)).pt))]) flG2.2 rfl rfl rfl rfl h rfl rfl) rfl rfl (by kernel_rfl)) ?_
            exact GSteps.nil
          intro γ76 w76 hb76 hB76 _
          refine th_r ?_
          have A77 := A72.keep hb76.out
          have A78 := A73.keep hb76.out
          have A79 : SB 30 w76 (γ76 0) [.n 6 (bx0 (((S k70)).pt)), .n 6 (bx1 (((S k70)).pt)), .n 6 (by0 (((S k70)).pt)), .n 6 (by1 (((S k70)).pt)), .b (bi (((S k70)).pt))] := (hB76 0 (by decide)).2
          have le79 := (hB76 0 (by decide)).1
          have HB80 := below_then HB74 hb76.out
          obtain ⟨g81, o81, ha81, lg81, hr81⟩ := (HK.keep HB80) k70 hq
          skip
          · refine wp_seq (region_c 1 (fun _ => 30) (fun _ => 9) (fun _ => 10) (fun _ => segs [.n 6 0, .n 6 0, .n 6 0, .n 6 0, .b false]) (fun _ => segs [.n 6 (bx0 (((EP.times C2 (A k70) (S k70))).pt)), .n 6 (bx1 (((EP.times C2 (A k70) (S k70))).pt)), .n 6 (by0 (((EP.times C2 (A k70) (S k70))).pt)), .n 6 (by1 (((EP.times C2 (A k70) (S k70))).pt)), .b (bi (((EP.times C2 (A k70) (S k70))).pt))]) [79, 80, 81, 82, 83, 84, 78, 85, 86, 14, 15] (fun γ => [sv [.n 6 (bx0 (((S k70)).pt)), .n 6 (bx1 (((S k70)).pt)), .n 6 (by0 (((S k70)).pt)), .n 6 (by1 (((S k70)).pt)), .b (bi (((S k70)).pt))], .slice ak 20 ck, .int .i64 ((k70 : Nat) : Int), .pointer (some ⟨g81, o81 + 4 * k70, none⟩), nv 4 [(A k70)], .tuple #[sv [.n 6 (bx0 (((EP.times C2 (A k70) (S k70))).pt)), .n 6 (bx1 (((EP.times C2 (A k70) (S k70))).pt)), .n 6 (by0 (((EP.times C2 (A k70) (S k70))).pt)), .n 6 (by1 (((EP.times C2 (A k70) (S k70))).pt)), .b (bi (((EP.times C2 (A k70) (S k70))).pt))], .int .i64 0], .tuple #[sv [.n 6 (bx0 (((EP.times C2 (A k70) (S k70))).pt)), .n 6 (bx1 (((EP.times C2 (A k70) (S k70))).pt)), .n 6 (by0 (((EP.times C2 (A k70) (S k70))).pt)), .n 6 (by1 (((EP.times C2 (A k70) (S k70))).pt)), .b (bi (((EP.times C2 (A k70) (S k70))).pt))], .int .i64 0], sv [.n 6 (bx0 (((EP.times C2 (A k70) (S k70))).pt)), .n 6 (bx1 (((EP.times C2 (A k70) (S k70))).pt)), .n 6 (by0 (((EP.times C2 (A k70) (S k70))).pt)), .n 6 (by1 (((EP.times C2 (A k70) (S k70))).pt)), .b (bi (((EP.times C2 (A k70) (S k70))).pt))], .int .i64 0, .pointer (some ⟨γ 0, 0, none⟩), .int .i64 0]) ?_ ?_)
            · refine stpv (fun γ w h => ex_loads 0 5 (m := [.n 6 (bx0 (((S k70)).pt)), .n 6 (bx1 (((S k70)).pt)), .n 6 (by0 (((S k70)).pt)), .n 6 (by1 (((S k70)).pt)), .b (bi (((S k70)).pt))]) flG2 rfl rfl (A79.keep h.out) rfl rfl) ?_
              refine stpx (fun _ _ => ex_move _) ?_
              refine stpx (fun _ _ => ex_move _) ?_
              refine stpx (fun _ _ => ex_idxR slR2 (a := ak) (m := 20) (c := ck) (i := k70) rfl ha81 rfl hq) ?_
              refine stpv (fun γ w h => ex_loadRn (K := 4) (v := (A k70)) flFr rfl (range_keep lg81 h.out hr81)) ?_
              refine stpc (.tuple #[sv [.n 6 (bx0 (((EP.times C2 (A k70) (S k70))).pt)), .n 6 (bx1 (((EP.times C2 (A k70) (S k70))).pt)), .n 6 (by0 (((EP.times C2 (A k70) (S k70))).pt)), .n 6 (by1 (((EP.times C2 (A k70) (S k70))).pt)), .b (bi (((EP.times C2 (A k70) (S k70))).pt))], .int .i64 0]) (fun γ w => ex_call (vs := [sv [.n 6 (bx0 (((S k70)).pt)), .n 6 (bx1 (((S k70)).pt)), .n 6 (by0 (((S k70)).pt)), .n 6 (by1 (((S k70)).pt)), .b (bi (((S k70)).pt))], nv 4 [(A k70)]]) rfl Tryz.call22 rfl) (fun w h => twoMul_p (S k70) _ (A k70) (HA k70 hk70) rfl _) ?_
              refine stpx (fun _ _ => ex_move _) ?_
              refine stpx (fun _ _ => ex_extract (vs := [sv [.n 6 (bx0 (((EP.times C2 (A k70) (S k70))).pt)), .n 6 (bx1 (((EP.times C2 (A k70) (S k70))).pt)), .n 6 (by0 (((EP.times C2 (A k70) (S k70))).pt)), .n 6 (by1 (((EP.times C2 (A k70) (S k70))).pt)), .b (bi (((EP.times C2 (A k70) (S k70))).pt))], .int .i64 0]) rfl rfl) ?_
              refine stpx (fun _ _ => ex_extract (vs := [sv [.n 6 (bx0 (((EP.times C2 (A k70) (S k70))).pt)), .n 6 (bx1 (((EP.times C2 (A k70) (S k70))).pt)), .n 6 (by0 (((EP.times C2 (A k70) (S k70))).pt)), .n 6 (by1 (((EP.times C2 (A k70) (S k70))).pt)), .b (bi (((EP.times C2 (A k70) (S k70))).pt))], .int .i64 0]) rfl rfl) ?_
              refine GSteps.cons (gm_new 0 rfl (fun _ => rfl) (fun _ _ => rfl) (fun γ w => ex_allocs (l := [.n 6 0, .n 6 0, .n 6 0, .n 6 0, .b false]) zG2) rfl (by kernel_rfl)) ?_
              refine GSteps.cons (gm_store 0 rfl rfl (fun _ => rfl) (len_segs (l := [.n 6 (bx0 (((EP.times C2 (A k70) (S k70))).pt)), .n 6 (bx1 (((EP.times C2 (A k70) (S k70))).pt)), .n 6 (by0 (((EP.times C2 (A k70) (S k70))).pt)), .n 6 (by1 (((EP.times C2 (A k70) (S k70))).pt)), .b (bi (((EP.times C2 (A k70) (S k70))).pt))]) (l' := [.n 6 0, .n 6 0, .n 6 0, .n 6 0, .b false]) rfl) (fun γ w h => ex_stores 0 5 (l := [.n 6 0, .n 6 0, .n 6 0, .n 6 0, .b false]) (m := [.n 6 (bx0 (((EP.times C2 (A k70) (S k70))).pt)), .n 6 (bx1 (((EP.times C2 (A k70) (S k70))).pt)), .n 6 (by0 (((EP.times C2 (A k70) (S k70))).pt)), .n 6 (by1 (((EP.times C2 (A k70) (S k70))).pt)), .b (bi (((EP.times C2 (A k70) (S k70))).pt))]) flG2.2 rfl rfl rfl rfl h rfl rfl) rfl rfl (by kernel_rfl)) ?_
              refine stpx (fun _ _ => ex_assign _) ?_
              exact GSteps.nil
            intro γ82 w82 hb82 hB82 _
            refine th_r ?_
            have A83 := A77.keep hb82.out
            have A84 := A78.keep hb82.out
            have A85 := A79.keep hb82.out
            have A86 : SB 30 w82 (γ82 0) [.n 6 (bx0 (((EP.times C2 (A k70) (S k70))).pt)), .n 6 (bx1 (((EP.times C2 (A k70) (S k70))).pt)), .n 6 (by0 (((EP.times C2 (A k70) (S k70))).pt)), .n 6 (by1 (((EP.times C2 (A k70) (S k70))).pt)), .b (bi (((EP.times C2 (A k70) (S k70))).pt))] := (hB82 0 (by decide)).2
            have le86 := (hB82 0 (by decide)).1
            have HB87 := below_then HB80 hb82.out
            refine wp_seq (region_c 1 (fun _ => 30) (fun _ => 6) (fun _ => 7) (fun _ => segs [.n 6 0, .n 6 0, .n 6 0, .n 6 0, .b false]) (fun _ => segs [.n 6 (bx0 (((sumE2 S A (k70 + 1))).pt)), .n 6 (bx1 (((sumE2 S A (k70 + 1))).pt)), .n 6 (by0 (((sumE2 S A (k70 + 1))).pt)), .n 6 (by1 (((sumE2 S A (k70 + 1))).pt)), .b (bi (((sumE2 S A (k70 + 1))).pt))]) [88, 89, 90, 87, 91, 92, 16, 17] (fun γ => [sv [.n 6 (bx0 (((sumE2 S A k70)).pt)), .n 6 (bx1 (((sumE2 S A k70)).pt)), .n 6 (by0 (((sumE2 S A k70)).pt)), .n 6 (by1 (((sumE2 S A k70)).pt)), .b (bi (((sumE2 S A k70)).pt))], sv [.n 6 (bx0 (((EP.times C2 (A k70) (S k70))).pt)), .n 6 (bx1 (((EP.times C2 (A k70) (S k70))).pt)), .n 6 (by0 (((EP.times C2 (A k70) (S k70))).pt)), .n 6 (by1 (((EP.times C2 (A k70) (S k70))).pt)), .b (bi (((EP.times C2 (A k70) (S k70))).pt))], .tuple #[sv [.n 6 (bx0 (((sumE2 S A (k70 + 1))).pt)), .n 6 (bx1 (((sumE2 S A (k70 + 1))).pt)), .n 6 (by0 (((sumE2 S A (k70 + 1))).pt)), .n 6 (by1 (((sumE2 S A (k70 + 1))).pt)), .b (bi (((sumE2 S A (k70 + 1))).pt))], .int .i64 0], .tuple #[sv [.n 6 (bx0 (((sumE2 S A (k70 + 1))).pt)), .n 6 (bx1 (((sumE2 S A (k70 + 1))).pt)), .n 6 (by0 (((sumE2 S A (k70 + 1))).pt)), .n 6 (by1 (((sumE2 S A (k70 + 1))).pt)), .b (bi (((sumE2 S A (k70 + 1))).pt))], .int .i64 0], sv [.n 6 (bx0 (((sumE2 S A (k70 + 1))).pt)), .n 6 (bx1 (((sumE2 S A (k70 + 1))).pt)), .n 6 (by0 (((sumE2 S A (k70 + 1))).pt)), .n 6 (by1 (((sumE2 S A (k70 + 1))).pt)), .b (bi (((sumE2 S A (k70 + 1))).pt))], .int .i64 0, .pointer (some ⟨γ 0, 0, none⟩), .int .i64 0]) ?_ ?_)
            · refine stpv (fun γ w h => ex_loads 0 5 (m := [.n 6 (bx0 (((sumE2 S A k70)).pt)), .n 6 (bx1 (((sumE2 S A k70)).pt)), .n 6 (by0 (((sumE2 S A k70)).pt)), .n 6 (by1 (((sumE2 S A k70)).pt)), .b (bi (((sumE2 S A k70)).pt))]) flG2 rfl rfl (A84.keep h.out) rfl rfl) ?_
              refine stpv (fun γ w h => ex_loads 0 5 (m := [.n 6 (bx0 (((EP.times C2 (A k70) (S k70))).pt)), .n 6 (bx1 (((EP.times C2 (A k70) (S k70))).pt)), .n 6 (by0 (((EP.times C2 (A k70) (S k70))).pt)), .n 6 (by1 (((EP.times C2 (A k70) (S k70))).pt)), .b (bi (((EP.times C2 (A k70) (S k70))).pt))]) flG2 rfl rfl (A86.keep h.out) rfl rfl) ?_
              refine stpc (.tuple #[sv [.n 6 (bx0 (((sumE2 S A (k70 + 1))).pt)), .n 6 (bx1 (((sumE2 S A (k70 + 1))).pt)), .n 6 (by0 (((sumE2 S A (k70 + 1))).pt)), .n 6 (by1 (((sumE2 S A (k70 + 1))).pt)), .b (bi (((sumE2 S A (k70 + 1))).pt))], .int .i64 0]) (fun γ w => ex_call (vs := [sv [.n 6 (bx0 (((sumE2 S A k70)).pt)), .n 6 (bx1 (((sumE2 S A k70)).pt)), .n 6 (by0 (((sumE2 S A k70)).pt)), .n 6 (by1 (((sumE2 S A k70)).pt)), .b (bi (((sumE2 S A k70)).pt))], sv [.n 6 (bx0 (((EP.times C2 (A k70) (S k70))).pt)), .n 6 (bx1 (((EP.times C2 (A k70) (S k70))).pt)), .n 6 (by0 (((EP.times C2 (A k70) (S k70))).pt)), .n 6 (by1 (((EP.times C2 (A k70) (S k70))).pt)), .b (bi (((EP.times C2 (A k70) (S k70))).pt))]]) rfl Tryz.call23 rfl) (fun w h => twoAdd_p (sumE2 S A k70) (EP.times C2 (A k70) (S k70)) _ rfl _) ?_
              refine stpx (fun _ _ => ex_move _) ?_
              refine stpx (fun _ _ => ex_extract (vs := [sv [.n 6 (bx0 (((sumE2 S A (k70 + 1))).pt)), .n 6 (bx1 (((sumE2 S A (k70 + 1))).pt)), .n 6 (by0 (((sumE2 S A (k70 + 1))).pt)), .n 6 (by1 (((sumE2 S A (k70 + 1))).pt)), .b (bi (((sumE2 S A (k70 + 1))).pt))], .int .i64 0]) rfl rfl) ?_
              refine stpx (fun _ _ => ex_extract (vs := [sv [.n 6 (bx0 (((sumE2 S A (k70 + 1))).pt)), .n 6 (bx1 (((sumE2 S A (k70 + 1))).pt)), .n 6 (by0 (((sumE2 S A (k70 + 1))).pt)), .n 6 (by1 (((sumE2 S A (k70 + 1))).pt)), .b (bi (((sumE2 S A (k70 + 1))).pt))], .int .i64 0]) rfl rfl) ?_
              refine GSteps.cons (gm_new 0 rfl (fun _ => rfl) (fun _ _ => rfl) (fun γ w => ex_allocs (l := [.n 6 0, .n 6 0, .n 6 0, .n 6 0, .b false]) zG2) rfl (by kernel_rfl)) ?_
              refine GSteps.cons (gm_store 0 rfl rfl (fun _ => rfl) (len_segs (l := [.n 6 (bx0 (((sumE2 S A (k70 + 1))).pt)), .n 6 (bx1 (((sumE2 S A (k70 + 1))).pt)), .n 6 (by0 (((sumE2 S A (k70 + 1))).pt)), .n 6 (by1 (((sumE2 S A (k70 + 1))).pt)), .b (bi (((sumE2 S A (k70 + 1))).pt))]) (l' := [.n 6 0, .n 6 0, .n 6 0, .n 6 0, .b false]) rfl) (fun γ w h => ex_stores 0 5 (l := [.n 6 0, .n 6 0, .n 6 0, .n 6 0, .b false]) (m := [.n 6 (bx0 (((sumE2 S A (k70 + 1))).pt)), .n 6 (bx1 (((sumE2 S A (k70 + 1))).pt)), .n 6 (by0 (((sumE2 S A (k70 + 1))).pt)), .n 6 (by1 (((sumE2 S A (k70 + 1))).pt)), .b (bi (((sumE2 S A (k70 + 1))).pt))]) flG2.2 rfl rfl rfl rfl h rfl rfl) rfl rfl (by kernel_rfl)) ?_
              refine stpx (fun _ _ => ex_assign _) ?_
              exact GSteps.nil
            intro γ88 w88 hb88 hB88 _
            refine th_r ?_
            have A89 := A83.keep hb88.out
            have A90 := A84.keep hb88.out
            have A91 := A85.keep hb88.out
            have A92 := A86.keep hb88.out
            have A93 : SB 30 w88 (γ88 0) [.n 6 (bx0 (((sumE2 S A (k70 + 1))).pt)), .n 6 (bx1 (((sumE2 S A (k70 + 1))).pt)), .n 6 (by0 (((sumE2 S A (k70 + 1))).pt)), .n 6 (by1 (((sumE2 S A (k70 + 1))).pt)), .b (bi (((sumE2 S A (k70 + 1))).pt))] := (hB88 0 (by decide)).2
            have le93 := (hB88 0 (by decide)).1
            have HB94 := below_then HB87 hb88.out
            refine wp_seq ?_
            refine wp_seq (region_0 [93, 94, 95, 96, 97, 98] [.int .i64 0, .bool false, .bool false, .int .i64 0, .bool false, .bool false] ?_ ?_)
            · refine stpx (fun _ _ => ex_move _) ?_
              refine stpx (fun _ _ => ex_neqi rfl rfl _ rfl) ?_
              refine stpx (fun _ _ => ex_move _) ?_
              refine stpx (fun _ _ => ex_move _) ?_
              refine stpx (fun _ _ => ex_neqi rfl rfl _ rfl) ?_
              refine stpx (fun _ _ => ex_pick (r := false) rfl) ?_
              exact GSteps.nil
            intro w95 hb95
            refine th_r ?_
            have A96 := A89.keep hb95.out
            have A97 := A90.keep hb95.out
            have A98 := A91.keep hb95.out
            have A99 := A92.keep hb95.out
            have A100 := A93.keep hb95.out
            have HB101 := below_then HB94 hb95.out
            refine wp_cond_false rfl ?_
            refine wp_skip ?_
            refine th_r ?_
            refine region_s 1 ((γ62 0)) 0 (segs [.n 6 (bx0 (((sumE2 S A (k70 + 1))).pt)), .n 6 (bx1 (((sumE2 S A (k70 + 1))).pt)), .n 6 (by0 (((sumE2 S A (k70 + 1))).pt)), .n 6 (by1 (((sumE2 S A (k70 + 1))).pt)), .b (bi (((sumE2 S A (k70 + 1))).pt))]) [99] [sv [.n 6 (bx0 (((sumE2 S A (k70 + 1))).pt)), .n 6 (bx1 (((sumE2 S A (k70 + 1))).pt)), .n 6 (by0 (((sumE2 S A (k70 + 1))).pt)), .n 6 (by1 (((sumE2 S A (k70 + 1))).pt)), .b (bi (((sumE2 S A (k70 + 1))).pt))]] ?_ ?_
            · refine latv (fun γ w h => ex_loads 0 5 (m := [.n 6 (bx0 (((sumE2 S A (k70 + 1))).pt)), .n 6 (bx1 (((sumE2 S A (k70 + 1))).pt)), .n 6 (by0 (((sumE2 S A (k70 + 1))).pt)), .n 6 (by1 (((sumE2 S A (k70 + 1))).pt)), .b (bi (((sumE2 S A (k70 + 1))).pt))]) flG2 rfl rfl (A100.keep h.out) rfl rfl) ?_
              refine GSteps.cons (late_store rfl (fun _ => rfl) (fun γ w h => ex_stores 0 5 (l := [.n 6 (bx0 (((sumE2 S A k70)).pt)), .n 6 (bx1 (((sumE2 S A k70)).pt)), .n 6 (by0 (((sumE2 S A k70)).pt)), .n 6 (by1 (((sumE2 S A k70)).pt)), .b (bi (((sumE2 S A k70)).pt))]) (m := [.n 6 (bx0 (((sumE2 S A (k70 + 1))).pt)), .n 6 (bx1 (((sumE2 S A (k70 + 1))).pt)), .n 6 (by0 (((sumE2 S A (k70 + 1))).pt)), .n 6 (by1 (((sumE2 S A (k70 + 1))).pt)), .b (bi (((sumE2 S A (k70 + 1))).pt))]) flG2.2 rfl rfl rfl rfl (A97.keep h.out) rfl rfl) rfl) ?_
              exact GSteps.nil
            intro w102 w102_ hb102 hs102
            have A103 := A96.keep hb102.out
            have A104 := A97.keep hb102.out
            have A105 := A98.keep hb102.out
            have A106 := A99.keep hb102.out
            have A107 := A100.keep hb102.out
            have HB108 := below_then HB101 hb102.out
            have A109 := hs102.other (Nat.ne_of_lt (Nat.lt_of_lt_of_le A60.lt le64)) A103
            have A110 := hs102.here 0 5 (l' := [.n 6 (bx0 (((sumE2 S A (k70 + 1))).pt)), .n 6 (bx1 (((sumE2 S A (k70 + 1))).pt)), .n 6 (by0 (((sumE2 S A (k70 + 1))).pt)), .n 6 (by1 (((sumE2 S A (k70 + 1))).pt)), .b (bi (((sumE2 S A (k70 + 1))).pt))]) A104 rfl rfl rfl
            have A111 := hs102.other (Ne.symm (Nat.ne_of_lt (Nat.lt_of_lt_of_le A73.lt le79))) A105
            have A112 := hs102.other (Ne.symm (Nat.ne_of_lt (Nat.lt_of_lt_of_le A78.lt le86))) A106
            have A113 := hs102.other (Ne.symm (Nat.ne_of_lt (Nat.lt_of_lt_of_le A84.lt le93))) A107
            have HB114 := hs102.below HB108 (Nat.le_trans HB61.size le64)
            refine bk_n ?_
            refine th_r ?_
            refine wp_region_lit ?_
            refine sv1 (.int .i64 ((k70 + 1 : Nat) : Int)) (ex_iadd rfl rfl ((k70 + 1 : Nat) : Int) (cnt_up (by omega))) ?_
            refine sv1 (.int .i64 ((k70 + 1 : Nat) : Int)) (ex_move _) ?_
            refine wpList_nil ?_
            refine th_r ?_
            exact hK70.out _ _ ⟨_, _, _, _, _, _, _, _, _, _, _, _, _, _, _, _, _, _, _, _, _, _, _, _, _, _, _, _, _, _, _, _, _, _, rfl, A109, A110, HB114⟩
      · rintro _ w115 ⟨i115_4, i115_12, i115_13, i115_14, i115_15, i115_16, i115_17, i115_74, i115_75, i115_76, i115_77, i115_78, i115_79, i115_80, i115_81, i115_82, i115_83, i115_84, i115_85, i115_86, i115_87, i115_88, i115_89, i115_90, i115_91, i115_92, i115_93, i115_94, i115_95, i115_96, i115_97, i115_98, i115_99, i115_100, rfl, A115_0, A115_1, HB115⟩ K115
        refine wp_seq (region_0 [74] [.bool false] ?_ ?_)
        · refine stpx (fun _ _ => ex_ilss rfl rfl false (by rw [eq_comm, decide_eq_false_iff_not]; omega)) ?_
          exact GSteps.nil
        intro w116 hb116
        refine th_r ?_
        have A117 := A115_0.keep hb116.out
        have A118 := A115_1.keep hb116.out
        have HB119 := below_then HB115 hb116.out
        refine wp_seq ?_
        refine wp_cond_false rfl ?_
        refine wp_exit (th_e (th_e (bk_e ?_)))
        refine th_r ?_
        refine wp_seq (region_0 [101, 102, 103, 104, 105, 106, 107, 108, 109, 110, 4] [.bool true, .bool true, .int .i64 0, .bool true, .bool true, .bool true, sv [.n 6 (bx0 (((sumE2 S A 20)).pt)), .n 6 (bx1 (((sumE2 S A 20)).pt)), .n 6 (by0 (((sumE2 S A 20)).pt)), .n 6 (by1 (((sumE2 S A 20)).pt)), .b (bi (((sumE2 S A 20)).pt))], sv [.n 6 (bx0 (((sumE2 S A 20)).pt)), .n 6 (bx1 (((sumE2 S A 20)).pt)), .n 6 (by0 (((sumE2 S A 20)).pt)), .n 6 (by1 (((sumE2 S A 20)).pt)), .b (bi (((sumE2 S A 20)).pt))], .bool true, .bool true, .bool true] ?_ ?_)
        · refine stpc (.bool true) (fun γ w => ex_call (vs := []) rfl Tryz.call20 rfl) (fun w h => sumalive_v _) ?_
          refine stpx (fun _ _ => ex_move _) ?_
          refine stpx (fun _ _ => ex_move _) ?_
          refine stpx (fun _ _ => ex_eqi rfl rfl _ rfl) ?_
          refine stpx (fun _ _ => ex_pick (r := true) rfl) ?_
          refine stpx (fun _ _ => ex_move _) ?_
          refine stpv (fun γ w h => ex_loads 0 5 (m := [.n 6 (bx0 (((sumE2 S A 20)).pt)), .n 6 (bx1 (((sumE2 S A 20)).pt)), .n 6 (by0 (((sumE2 S A 20)).pt)), .n 6 (by1 (((sumE2 S A 20)).pt)), .b (bi (((sumE2 S A 20)).pt))]) flG2 rfl rfl (A117.keep h.out) rfl rfl) ?_
          refine stpv (fun γ w h => ex_loads 0 5 (m := [.n 6 (bx0 (((sumE2 S A 20)).pt)), .n 6 (bx1 (((sumE2 S A 20)).pt)), .n 6 (by0 (((sumE2 S A 20)).pt)), .n 6 (by1 (((sumE2 S A 20)).pt)), .b (bi (((sumE2 S A 20)).pt))]) flG2 rfl rfl (A118.keep h.out) rfl rfl) ?_
          refine stpx (fun _ _ => ex_eqs gdG2 eqG2 rfl rfl rfl (shG2_of (bx0_B (((sumE2 S A 20)).pt)) (bx1_B (((sumE2 S A 20)).pt)) (by0_B (((sumE2 S A 20)).pt)) (by1_B (((sumE2 S A 20)).pt))) (shG2_of (bx0_B (((sumE2 S A 20)).pt)) (bx1_B (((sumE2 S A 20)).pt)) (by0_B (((sumE2 S A 20)).pt)) (by1_B (((sumE2 S A 20)).pt))) true (by simp)) ?_
          refine stpx (fun _ _ => ex_pick (r := true) rfl) ?_
          refine stpx (fun _ _ => ex_assign _) ?_
          exact GSteps.nil
        intro w120 hb120
        refine th_r ?_
        have A121 := A117.keep hb120.out
        have A122 := A118.keep hb120.out
        have HB123 := below_then HB119 hb120.out
        exact wp_ret (bodyPost_ret (ret1 Tryz.results4 (res_tmp rfl)) rfl ⟨rfl, HB123⟩)
    · subst he
      rw [hw]
      obtain ⟨j, hj, hok, hbad⟩ := wr_yesT hw
      have HPM : Row w ap 25 20 (rw2T X0 X1 Y0 Y1 I) := HP.less (by omega)
      refine wp_seq (region_c 1 (fun _ => 30) (fun _ => 6) (fun _ => 7) (fun _ => segs [.n 6 0, .n 6 0, .n 6 0, .n 6 0, .b false]) (fun _ => segs [.n 6 0, .n 6 0, .n 6 0, .n 6 0, .b false]) [46, 47, 48, 45, 49, 50, 8, 9] (fun γ => [.slice ap 20 cp, .slice ak 20 ck, .tuple #[sv [.n 6 0, .n 6 0, .n 6 0, .n 6 0, .b false], .int .i64 30], .tuple #[sv [.n 6 0, .n 6 0, .n 6 0, .n 6 0, .b false], .int .i64 30], sv [.n 6 0, .n 6 0, .n 6 0, .n 6 0, .b false], .int .i64 30, .pointer (some ⟨γ 0, 0, none⟩), .int .i64 30]) ?_ ?_)
      · refine stpx (fun _ _ => ex_move _) ?_
        refine stpx (fun _ _ => ex_move _) ?_
        refine stpc (.tuple #[sv [.n 6 0, .n 6 0, .n 6 0, .n 6 0, .b false], .int .i64 30]) (fun γ w => ex_call (vs := [.slice ap 20 cp, .slice ak 20 ck]) rfl Tryz.call18 rfl) (fun w h => sumErr2_curveT 20 (by decide) X0 X1 Y0 Y1 I ap ak cp ck j hj hok (hXY j (by omega)).1 (hXY j (by omega)).2.1 (hXY j (by omega)).2.2.1 (hXY j (by omega)).2.2.2 hbad _ (HPM.keep (below_here HB40 h))) ?_
        refine stpx (fun _ _ => ex_move _) ?_
        refine stpx (fun _ _ => ex_extract (vs := [sv [.n 6 0, .n 6 0, .n 6 0, .n 6 0, .b false], .int .i64 30]) rfl rfl) ?_
        refine stpx (fun _ _ => ex_extract (vs := [sv [.n 6 0, .n 6 0, .n 6 0, .n 6 0, .b false], .int .i64 30]) rfl rfl) ?_
        refine GSteps.cons (gm_new 0 rfl (fun _ => rfl) (fun _ _ => rfl) (fun γ w => ex_allocs (l := [.n 6 0, .n 6 0, .n 6 0, .n 6 0, .b false]) zG2) rfl (by kernel_rfl)) ?_
        refine GSteps.cons (gm_store 0 rfl rfl (fun _ => rfl) (len_segs (l := [.n 6 0, .n 6 0, .n 6 0, .n 6 0, .b false]) (l' := [.n 6 0, .n 6 0, .n 6 0, .n 6 0, .b false]) rfl) (fun γ w h => ex_stores 0 5 (l := [.n 6 0, .n 6 0, .n 6 0, .n 6 0, .b false]) (m := [.n 6 0, .n 6 0, .n 6 0, .n 6 0, .b false]) flG2.2 rfl rfl rfl rfl h rfl rfl) rfl rfl (by kernel_rfl)) ?_
        refine stpx (fun _ _ => ex_assign _) ?_
        exact GSteps.nil
      intro γ124 w124 hb124 hB124 _
      refine th_r ?_
      have A125 : SB 30 w124 (γ124 0) [.n 6 0, .n 6 0, .n 6 0, .n 6 0, .b false] := (hB124 0 (by decide)).2
      have le125 := (hB124 0 (by decide)).1
      have HB126 := below_then HB40 hb124.out
      refine wp_seq ?_
      refine wp_seq (region_0 [51, 52, 53, 54, 55, 56, 10] [.slice ap 20 cp, .int .i64 ((20 : Nat) : Int), .slice ak 20 ck, .int .i64 ((20 : Nat) : Int), .bool true, .int .i64 30, .int .i64 30] ?_ ?_)
      · refine stpx (fun _ _ => ex_move _) ?_
        refine stpx (fun _ _ => ex_lenR slP2 (m := 20) rfl) ?_
        refine stpx (fun _ _ => ex_move _) ?_
        refine stpx (fun _ _ => ex_lenR slR2 (m := 20) rfl) ?_
        refine stpx (fun _ _ => ex_move _) ?_
        refine stpc (.int .i64 30) (fun γ w => ex_call (vs := [.int .i64 ((20 : Nat) : Int), .int .i64 ((20 : Nat) : Int), .bool true]) rfl Tryz.call19 rfl) (fun w h => sumbad_curveT 20 (by decide) _) ?_
        refine stpx (fun _ _ => ex_assign _) ?_
        exact GSteps.nil
      intro w127 hb127
      refine th_r ?_
      have A128 := A125.keep hb127.out
      have HB129 := below_then HB126 hb127.out
      refine wp_seq (region_0 [57, 58] [.int .i64 30, .bool true] ?_ ?_)
      · refine stpx (fun _ _ => ex_move _) ?_
        refine stpx (fun _ _ => ex_neqi rfl rfl _ rfl) ?_
        exact GSteps.nil
      intro w130 hb130
      refine th_r ?_
      have A131 := A128.keep hb130.out
      have HB132 := below_then HB129 hb130.out
      refine wp_cond_true rfl ?_
      refine wp_seq (region_0 [59, 60, 61, 62, 63, 64, 65, 66, 67, 68, 69, 4] [.bool true, .bool true, .int .i64 30, .int .i64 30, .bool true, .bool true, .bool true, sv [.n 6 0, .n 6 0, .n 6 0, .n 6 0, .b false], sv [.n 6 0, .n 6 0, .n 6 0, .n 6 0, .b false], .bool true, .bool true, .bool true] ?_ ?_)
      · refine stpc (.bool true) (fun γ w => ex_call (vs := []) rfl Tryz.call20 rfl) (fun w h => sumalive_v _) ?_
        refine stpx (fun _ _ => ex_move _) ?_
        refine stpx (fun _ _ => ex_move _) ?_
        refine stpx (fun _ _ => ex_move _) ?_
        refine stpx (fun _ _ => ex_eqi rfl rfl _ rfl) ?_
        refine stpx (fun _ _ => ex_pick (r := true) rfl) ?_
        refine stpx (fun _ _ => ex_move _) ?_
        refine stpv (fun γ w h => ex_loads 0 5 (m := [.n 6 0, .n 6 0, .n 6 0, .n 6 0, .b false]) flG2 rfl rfl (A131.keep h.out) rfl rfl) ?_
        refine stpx (fun _ _ => ex_builds stG2 (l := [.n 6 0, .n 6 0, .n 6 0, .n 6 0, .b false]) (vs := []) rfl rfl) ?_
        refine stpx (fun _ _ => ex_eqs gdG2 eqG2 rfl rfl rfl (shG2_of zero_B zero_B zero_B zero_B) (shG2_of zero_B zero_B zero_B zero_B) true (by simp)) ?_
        refine stpx (fun _ _ => ex_pick (r := true) rfl) ?_
        refine stpx (fun _ _ => ex_assign _) ?_
        exact GSteps.nil
      intro w133 hb133
      refine th_r ?_
      have A134 := A131.keep hb133.out
      have HB135 := below_then HB132 hb133.out
      exact wp_ret (th_ret (bodyPost_ret (ret1 Tryz.results4 (res_tmp rfl)) rfl ⟨rfl, HB135⟩))
set_option maxRecDepth 20000 in
set_option maxHeartbeats 4000000 in
theorem sumTwos_longT (m mk : Nat) (ap ak : Option Addr) (cp ck : Nat) (hmc : m ≤ cp) (hl : 4096 < m) (X0 X1 Y0 Y1 : Nat → Nat) (I : Nat → Bool) (hXY : ∀ i, i < m → X0 i < fpB ∧ X1 i < fpB ∧ Y0 i < fpB ∧ Y1 i < fpB) (A : Nat → Nat) (HA : ∀ i, i < mk → A i < frB) (w : World) (HP : Row w ap 25 m (rw2T X0 X1 Y0 Y1 I)) (HK : Row w ak 4 mk (fun i => [.n 4 (A i)])) :
    Calls Tryz.prog 4 #[.slice ap m cp, .slice ak mk ck] w (Is (.bool true) w) := by
  have hmin : ((4096 : Nat) : Int) = min ((m : Nat) : Int) 4096 := by omega
  go_enter Tryz.func4, Tryz.ntmps4
  refine wp_seq (region_0 [4] [.bool false] ?_ ?_)
  · refine stpx (fun _ _ => ex_assign _) ?_
    exact GSteps.nil
  intro w1 hb1
  refine th_r ?_
  have HB2 := below_then (Below.refl w.heap.size w) hb1.out
  refine wp_seq ?_
  refine wp_seq (region_0 [18, 19, 20, 21, 22, 23, 24, 25] [.slice ap m cp, .int .i64 ((m : Nat) : Int), .bool true, .bool true, .slice ap m cp, .int .i64 ((m : Nat) : Int), .bool false, .bool false] ?_ ?_)
  · refine stpx (fun _ _ => ex_move _) ?_
    refine stpx (fun _ _ => ex_lenR slP2 (m := m) rfl) ?_
    refine stpx (fun _ _ => ex_igtr rfl rfl true (by rw [eq_comm, decide_eq_true_eq]; omega)) ?_
    refine stpx (fun _ _ => ex_move _) ?_
    refine stpx (fun _ _ => ex_move _) ?_
    refine stpx (fun _ _ => ex_lenR slP2 (m := m) rfl) ?_
    refine stpx (fun _ _ => ex_ileqST rfl rfl false (by rw [eq_comm, decide_eq_false_iff_not]; omega)) ?_
    refine stpx (fun _ _ => ex_pick (r := true) rfl) ?_
    exact GSteps.nil
  intro w3 hb3
  refine th_r ?_
  have HB4 := below_then HB2 hb3.out
  refine wp_cond_false rfl ?_
  refine wp_skip ?_
  refine th_r ?_
  refine wp_seq (region_0 [5] [.bool false] ?_ ?_)
  · refine stpx (fun _ _ => ex_assign _) ?_
    exact GSteps.nil
  intro w5 hb5
  refine th_r ?_
  have HB6 := below_then HB4 hb5.out
  refine wp_seq ?_
  refine wp_seq (region_0 [28, 29, 30, 31, 32, 33, 34] [.slice ap m cp, .slice ap m cp, .int .i64 ((m : Nat) : Int), .int .i64 ((4096 : Nat) : Int), .slice ap 4096 cp, .int .i64 ((4096 : Nat) : Int), .int .i64 0] ?_ ?_)
  · refine stpx (fun _ _ => ex_move _) ?_
    refine stpx (fun _ _ => ex_move _) ?_
    refine stpx (fun _ _ => ex_lenR slP2 (m := m) rfl) ?_
    refine stpx (fun _ _ => ex_iminrT rfl rfl _ hmin) ?_
    refine stpx (fun _ _ => ex_cutNT slP2 (a := ap) (m := m) (c := cp) (k := 4096) rfl rfl (by omega)) ?_
    refine stpx (fun _ _ => ex_lenR slP2 (m := 4096) rfl) ?_
    refine stpx (fun _ _ => ex_move _) ?_
    exact GSteps.nil
  intro w7 hb7
  refine th_r ?_
  have HB8 := below_then HB6 hb7.out
  refine wp_block ?_
  refine wp_loop_by (4096) (fun q_ a_ v_ => ∃ j7 j35 j36 j37 j38 j39 j40 j41 j42 j43 j44 : Value, a_ = ⟨List.toArray ((.slice ap m cp) :: (.slice ak mk ck) :: undef :: undef :: (.bool false) :: (.bool ((wrBT X0 X1 Y0 Y1 I q_))) :: undef :: j7 :: undef :: undef :: undef :: undef :: undef :: undef :: undef :: undef :: undef :: undef :: (.slice ap m cp) :: (.int .i64 ((m : Nat) : Int)) :: (.bool true) :: (.bool true) :: (.slice ap m cp) :: (.int .i64 ((m : Nat) : Int)) :: (.bool false) :: (.bool false) :: undef :: undef :: (.slice ap m cp) :: (.slice ap m cp) :: (.int .i64 ((m : Nat) : Int)) :: (.int .i64 ((4096 : Nat) : Int)) :: (.slice ap 4096 cp) :: (.int .i64 ((4096 : Nat) : Int)) :: (.int .i64 ((q_ : Nat) : Int)) :: j35 :: j36 :: j37 :: j38 :: j39 :: j40 :: j41 :: j42 :: j43 :: j44 :: undef :: undef :: undef :: undef :: undef :: undef :: undef :: undef :: undef :: undef :: undef :: undef :: undef :: undef :: undef :: undef :: undef :: undef :: undef :: undef :: undef :: undef :: undef :: undef :: undef :: undef :: undef :: undef :: undef :: undef :: undef :: undef :: undef :: undef :: undef :: undef :: undef :: undef :: undef :: undef :: undef :: undef :: undef :: undef :: undef :: undef :: undef :: undef :: undef :: undef :: undef :: undef :: undef :: undef :: undef :: undef :: undef :: undef :: undef :: undef :: undef :: undef :: undef :: undef :: undef :: undef :: []), []⟩ ∧ Below w.heap.size w v_) ⟨_, _, _, _, _, _, _, _, _, _, _, rfl, HB8⟩ ?_ ?_
  · intro k9 hk9
    rintro _ w9 ⟨i9_7, i9_35, i9_36, i9_37, i9_38, i9_39, i9_40, i9_41, i9_42, i9_43, i9_44, rfl, HB9⟩ K9 hK9
    have hq := hk9
    have hqm : k9 < m := by omega
    refine wp_seq (region_0 [35] [.bool true] ?_ ?_)
    · refine stpx (fun _ _ => ex_ilss rfl rfl true (by rw [eq_comm, decide_eq_true_eq]; omega)) ?_
      exact GSteps.nil
    intro w10 hb10
    refine th_r ?_
    have HB11 := below_then HB9 hb10.out
    refine wp_seq ?_
    refine wp_cond_true rfl ?_
    refine wp_skip ?_
    refine th_r ?_
    refine wp_seq ?_
    refine wp_block ?_
    obtain ⟨g12, o12, ha12, lg12, hr12⟩ := (HP.keep HB11) k9 hqm
    skip
    · refine wp_seq (region_c 1 (fun _ => 30) (fun _ => 2) (fun _ => 3) (fun _ => segs [.n 6 0, .n 6 0, .n 6 0, .n 6 0, .b false]) (fun _ => segs [.n 6 ((X0 k9)), .n 6 ((X1 k9)), .n 6 ((Y0 k9)), .n 6 ((Y1 k9)), .b ((I k9))]) [36, 37, 7] (fun γ => [.pointer (some ⟨g12, o12 + 25 * k9, none⟩), sv [.n 6 ((X0 k9)), .n 6 ((X1 k9)), .n 6 ((Y0 k9)), .n 6 ((Y1 k9)), .b ((I k9))], .pointer (some ⟨γ 0, 0, none⟩)]) ?_ ?_)
      · refine stpx (fun _ _ => ex_idxR slP2 (a := ap) (m := 4096) (c := cp) (i := k9) rfl ha12 rfl hq) ?_
        refine stpv (fun γ w h => ex_loadR (l := [.n 6 ((X0 k9)), .n 6 ((X1 k9)), .n 6 ((Y0 k9)), .n 6 ((Y1 k9)), .b ((I k9))]) flG2 rfl rfl (range_keep lg12 h.out hr12)) ?_
        refine GSteps.cons (gm_new 0 rfl (fun _ => rfl) (fun _ _ => rfl) (fun γ w => ex_allocs (l := [.n 6 0, .n 6 0, .n 6 0, .n 6 0, .b false]) zG2) rfl (by kernel_rfl)) ?_
        refine GSteps.cons (gm_store 0 rfl rfl (fun _ => rfl) (len_segs (l := [.n 6 ((X0 k9)), .n 6 ((X1 k9)), .n 6 ((Y0 k9)), .n 6 ((Y1 k9)), .b ((I k9))]) (l' := [.n 6 0, .n 6 0, .n 6 0, .n 6 0, .b false]) rfl) (fun γ w h => ex_stores 0 5 (l := [.n 6 0, .n 6 0, .n 6 0, .n 6 0, .b false]) (m := [.n 6 ((X0 k9)), .n 6 ((X1 k9)), .n 6 ((Y0 k9)), .n 6 ((Y1 k9)), .b ((I k9))]) flG2.2 rfl rfl rfl rfl h rfl rfl) rfl rfl (by kernel_rfl)) ?_
        exact GSteps.nil
      intro γ13 w13 hb13 hB13 _
      refine th_r ?_
      have A14 : SB 30 w13 (γ13 0) [.n 6 ((X0 k9)), .n 6 ((X1 k9)), .n 6 ((Y0 k9)), .n 6 ((Y1 k9)), .b ((I k9))] := (hB13 0 (by decide)).2
      have le14 := (hB13 0 (by decide)).1
      have HB15 := below_then HB11 hb13.out
      rcases wr_casesT X0 X1 Y0 Y1 I k9 with hw | ⟨hw, hr⟩ | ⟨hw, hr⟩
      · rw [hw]
        refine wp_region_lit ?_
        refine sv1 (.bool true) (ex_move _) ?_
        refine sv1 (.bool true) (ex_move _) ?_
        refine sq_skip (a' := ⟨List.toArray ((.slice ap m cp) :: (.slice ak mk ck) :: undef :: undef :: (.bool false) :: (.bool true) :: undef :: (.pointer (some ⟨(γ13 0), 0, none⟩)) :: undef :: undef :: undef :: undef :: undef :: undef :: undef :: undef :: undef :: undef :: (.slice ap m cp) :: (.int .i64 ((m : Nat) : Int)) :: (.bool true) :: (.bool true) :: (.slice ap m cp) :: (.int .i64 ((m : Nat) : Int)) :: (.bool false) :: (.bool false) :: undef :: undef :: (.slice ap m cp) :: (.slice ap m cp) :: (.int .i64 ((m : Nat) : Int)) :: (.int .i64 ((4096 : Nat) : Int)) :: (.slice ap 4096 cp) :: (.int .i64 ((4096 : Nat) : Int)) :: (.int .i64 ((k9 : Nat) : Int)) :: (.bool true) :: (.pointer (some ⟨g12, o12 + 25 * k9, none⟩)) :: (sv [.n 6 ((X0 k9)), .n 6 ((X1 k9)), .n 6 ((Y0 k9)), .n 6 ((Y1 k9)), .b ((I k9))]) :: (.bool true) :: (.bool true) :: undef :: i9_41 :: i9_42 :: i9_43 :: i9_44 :: undef :: undef :: undef :: undef :: undef :: undef :: undef :: undef :: undef :: undef :: undef :: undef :: undef :: undef :: undef :: undef :: undef :: undef :: undef :: undef :: undef :: undef :: undef :: undef :: undef :: undef :: undef :: undef :: undef :: undef :: undef :: undef :: undef :: undef :: undef :: undef :: undef :: undef :: undef :: undef :: undef :: undef :: undef :: undef :: undef :: undef :: undef :: undef :: undef :: undef :: undef :: undef :: undef :: undef :: undef :: undef :: undef :: undef :: undef :: undef :: undef :: undef :: undef :: undef :: undef :: undef :: []), []⟩) rfl rfl ?_
        refine sq_skip (a' := ⟨List.toArray ((.slice ap m cp) :: (.slice ak mk ck) :: undef :: undef :: (.bool false) :: (.bool true) :: undef :: (.pointer (some ⟨(γ13 0), 0, none⟩)) :: undef :: undef :: undef :: undef :: undef :: undef :: undef :: undef :: undef :: undef :: (.slice ap m cp) :: (.int .i64 ((m : Nat) : Int)) :: (.bool true) :: (.bool true) :: (.slice ap m cp) :: (.int .i64 ((m : Nat) : Int)) :: (.bool false) :: (.bool false) :: undef :: undef :: (.slice ap m cp) :: (.slice ap m cp) :: (.int .i64 ((m : Nat) : Int)) :: (.int .i64 ((4096 : Nat) : Int)) :: (.slice ap 4096 cp) :: (.int .i64 ((4096 : Nat) : Int)) :: (.int .i64 ((k9 : Nat) : Int)) :: (.bool true) :: (.pointer (some ⟨g12, o12 + 25 * k9, none⟩)) :: (sv [.n 6 ((X0 k9)), .n 6 ((X1 k9)), .n 6 ((Y0 k9)), .n 6 ((Y1 k9)), .b ((I k9))]) :: (.bool true) :: (.bool true) :: undef :: undef :: i9_42 :: i9_43 :: i9_44 :: undef :: undef :: undef :: undef :: undef :: undef :: undef :: undef :: undef :: undef :: undef :: undef :: undef :: undef :: undef :: undef :: undef :: undef :: undef :: undef :: undef :: undef :: undef :: undef :: undef :: undef :: undef :: undef :: undef :: undef :: undef :: undef :: undef :: undef :: undef :: undef :: undef :: undef :: undef :: undef :: undef :: undef :: undef :: undef :: undef :: undef :: undef :: undef :: undef :: undef :: undef :: undef :: undef :: undef :: undef :: undef :: undef :: undef :: undef :: undef :: undef :: undef :: undef :: undef :: undef :: undef :: []), []⟩) rfl rfl ?_
        refine sq_skip (a' := ⟨List.toArray ((.slice ap m cp) :: (.slice ak mk ck) :: undef :: undef :: (.bool false) :: (.bool true) :: undef :: (.pointer (some ⟨(γ13 0), 0, none⟩)) :: undef :: undef :: undef :: undef :: undef :: undef :: undef :: undef :: undef :: undef :: (.slice ap m cp) :: (.int .i64 ((m : Nat) : Int)) :: (.bool true) :: (.bool true) :: (.slice ap m cp) :: (.int .i64 ((m : Nat) : Int)) :: (.bool false) :: (.bool false) :: undef :: undef :: (.slice ap m cp) :: (.slice ap m cp) :: (.int .i64 ((m : Nat) : Int)) :: (.int .i64 ((4096 : Nat) : Int)) :: (.slice ap 4096 cp) :: (.int .i64 ((4096 : Nat) : Int)) :: (.int .i64 ((k9 : Nat) : Int)) :: (.bool true) :: (.pointer (some ⟨g12, o12 + 25 * k9, none⟩)) :: (sv [.n 6 ((X0 k9)), .n 6 ((X1 k9)), .n 6 ((Y0 k9)), .n 6 ((Y1 k9)), .b ((I k9))]) :: (.bool true) :: (.bool true) :: undef :: undef :: undef :: i9_43 :: i9_44 :: undef :: undef :: undef :: undef :: undef :: undef :: undef :: undef :: undef :: undef :: undef :: undef :: undef :: undef :: undef :: undef :: undef :: undef :: undef :: undef :: undef :: undef :: undef :: undef :: undef :: undef :: undef :: undef :: undef :: undef :: undef :: undef :: undef :: undef :: undef :: undef :: undef :: undef :: undef :: undef :: undef :: undef :: undef :: undef :: undef :: undef :: undef :: undef :: undef :: undef :: undef :: undef :: undef :: undef :: undef :: undef :: undef :: undef :: undef :: undef :: undef :: undef :: undef :: undef :: undef :: undef :: []), []⟩) rfl rfl ?_
        refine sv1 (.bool true) (ex_pick (r := true) rfl) ?_
        refine sv1 (.bool true) (ex_assign _) ?_
        refine wpList_nil ?_
        refine bk_n ?_
        refine th_r ?_
        refine wp_region_lit ?_
        refine sv1 (.int .i64 ((k9 + 1 : Nat) : Int)) (ex_iadd rfl rfl ((k9 + 1 : Nat) : Int) (cnt_up (by omega))) ?_
        refine sv1 (.int .i64 ((k9 + 1 : Nat) : Int)) (ex_move _) ?_
        refine wpList_nil ?_
        refine th_r ?_
        exact hK9.out _ _ ⟨_, _, _, _, _, _, _, _, _, _, _, (by rw [wr_1T hw]), HB15⟩
      · rw [hw]
        refine wp_region_lit ?_
        refine sv1 (.bool false) (ex_move _) ?_
        refine sv1 (.bool false) (ex_move _) ?_
        refine sv1 (sv [.n 6 ((X0 k9)), .n 6 ((X1 k9)), .n 6 ((Y0 k9)), .n 6 ((Y1 k9)), .b ((I k9))]) (ex_loads 0 5 (m := [.n 6 ((X0 k9)), .n 6 ((X1 k9)), .n 6 ((Y0 k9)), .n 6 ((Y1 k9)), .b ((I k9))]) flG2 rfl rfl A14 rfl rfl) ?_
        refine sc1 (.bool true) (ex_call (vs := [sv [.n 6 ((X0 k9)), .n 6 ((X1 k9)), .n 6 ((Y0 k9)), .n 6 ((Y1 k9)), .b ((I k9))]]) rfl Tryz.call17 rfl) (twoRight_okT hr _) ?_
        intro w23 hb23
        have A24 := A14.keep hb23
        have HB25 := below_then HB15 hb23
        refine sv1 (.bool false) (ex_not (r := true) rfl) ?_
        refine sv1 (.bool false) (ex_pick (r := false) rfl) ?_
        refine sv1 (.bool false) (ex_assign _) ?_
        refine wpList_nil ?_
        refine bk_n ?_
        refine th_r ?_
        refine wp_region_lit ?_
        refine sv1 (.int .i64 ((k9 + 1 : Nat) : Int)) (ex_iadd rfl rfl ((k9 + 1 : Nat) : Int) (cnt_up (by omega))) ?_
        refine sv1 (.int .i64 ((k9 + 1 : Nat) : Int)) (ex_move _) ?_
        refine wpList_nil ?_
        refine th_r ?_
        exact hK9.out _ _ ⟨_, _, _, _, _, _, _, _, _, _, _, (by rw [wr_2T hw hr]), HB25⟩
      · rw [hw]
        refine wp_region_lit ?_
        refine sv1 (.bool false) (ex_move _) ?_
        refine sv1 (.bool false) (ex_move _) ?_
        refine sv1 (sv [.n 6 ((X0 k9)), .n 6 ((X1 k9)), .n 6 ((Y0 k9)), .n 6 ((Y1 k9)), .b ((I k9))]) (ex_loads 0 5 (m := [.n 6 ((X0 k9)), .n 6 ((X1 k9)), .n 6 ((Y0 k9)), .n 6 ((Y1 k9)), .b ((I k9))]) flG2 rfl rfl A14 rfl rfl) ?_
        refine sc1 (.bool false) (ex_call (vs := [sv [.n 6 ((X0 k9)), .n 6 ((X1 k9)), .n 6 ((Y0 k9)), .n 6 ((Y1 k9)), .b ((I k9))]]) rfl Tryz.call17 rfl) (twoRight_no (hXY k9 hqm).1 (hXY k9 hqm).2.1 (hXY k9 hqm).2.2.1 (hXY k9 hqm).2.2.2 hr _) ?_
        intro w32 hb32
        have A33 := A14.keep hb32
        have HB34 := below_then HB15 hb32
        refine sv1 (.bool true) (ex_not (r := false) rfl) ?_
        refine sv1 (.bool true) (ex_pick (r := false) rfl) ?_
        refine sv1 (.bool true) (ex_assign _) ?_
        refine wpList_nil ?_
        refine bk_n ?_
        refine th_r ?_
        refine wp_region_lit ?_
        refine sv1 (.int .i64 ((k9 + 1 : Nat) : Int)) (ex_iadd rfl rfl ((k9 + 1 : Nat) : Int) (cnt_up (by omega))) ?_
        refine sv1 (.int .i64 ((k9 + 1 : Nat) : Int)) (ex_move _) ?_
        refine wpList_nil ?_
        refine th_r ?_
        exact hK9.out _ _ ⟨_, _, _, _, _, _, _, _, _, _, _, (by rw [wr_3T hw hr]), HB34⟩
  · rintro _ w38 ⟨i38_7, i38_35, i38_36, i38_37, i38_38, i38_39, i38_40, i38_41, i38_42, i38_43, i38_44, rfl, HB38⟩ K38
    refine wp_seq (region_0 [35] [.bool false] ?_ ?_)
    · refine stpx (fun _ _ => ex_ilss rfl rfl false (by rw [eq_comm, decide_eq_false_iff_not]; omega)) ?_
      exact GSteps.nil
    intro w39 hb39
    refine th_r ?_
    have HB40 := below_then HB38 hb39.out
    refine wp_seq ?_
    refine wp_cond_false rfl ?_
    refine wp_exit (th_e (th_e (bk_e ?_)))
    refine th_r ?_
    rcases Decidable.em (m = mk) with he | hne
    · subst he
      refine wp_seq (region_c 1 (fun _ => 30) (fun _ => 6) (fun _ => 7) (fun _ => segs [.n 6 0, .n 6 0, .n 6 0, .n 6 0, .b false]) (fun _ => segs [.n 6 0, .n 6 0, .n 6 0, .n 6 0, .b false]) [46, 47, 48, 45, 49, 50, 8, 9] (fun γ => [.slice ap m cp, .slice ak m ck, .tuple #[sv [.n 6 0, .n 6 0, .n 6 0, .n 6 0, .b false], .int .i64 2], .tuple #[sv [.n 6 0, .n 6 0, .n 6 0, .n 6 0, .b false], .int .i64 2], sv [.n 6 0, .n 6 0, .n 6 0, .n 6 0, .b false], .int .i64 2, .pointer (some ⟨γ 0, 0, none⟩), .int .i64 2]) ?_ ?_)
      · refine stpx (fun _ _ => ex_move _) ?_
        refine stpx (fun _ _ => ex_move _) ?_
        refine stpc (.tuple #[sv [.n 6 0, .n 6 0, .n 6 0, .n 6 0, .b false], .int .i64 2]) (fun γ w => ex_call (vs := [.slice ap m cp, .slice ak m ck]) rfl Tryz.call18 rfl) (fun w h => sumErr2_longT m ap ak cp ck hl _) ?_
        refine stpx (fun _ _ => ex_move _) ?_
        refine stpx (fun _ _ => ex_extract (vs := [sv [.n 6 0, .n 6 0, .n 6 0, .n 6 0, .b false], .int .i64 2]) rfl rfl) ?_
        refine stpx (fun _ _ => ex_extract (vs := [sv [.n 6 0, .n 6 0, .n 6 0, .n 6 0, .b false], .int .i64 2]) rfl rfl) ?_
        refine GSteps.cons (gm_new 0 rfl (fun _ => rfl) (fun _ _ => rfl) (fun γ w => ex_allocs (l := [.n 6 0, .n 6 0, .n 6 0, .n 6 0, .b false]) zG2) rfl (by kernel_rfl)) ?_
        refine GSteps.cons (gm_store 0 rfl rfl (fun _ => rfl) (len_segs (l := [.n 6 0, .n 6 0, .n 6 0, .n 6 0, .b false]) (l' := [.n 6 0, .n 6 0, .n 6 0, .n 6 0, .b false]) rfl) (fun γ w h => ex_stores 0 5 (l := [.n 6 0, .n 6 0, .n 6 0, .n 6 0, .b false]) (m := [.n 6 0, .n 6 0, .n 6 0, .n 6 0, .b false]) flG2.2 rfl rfl rfl rfl h rfl rfl) rfl rfl (by kernel_rfl)) ?_
        refine stpx (fun _ _ => ex_assign _) ?_
        exact GSteps.nil
      intro γ41 w41 hb41 hB41 _
      refine th_r ?_
      have A42 : SB 30 w41 (γ41 0) [.n 6 0, .n 6 0, .n 6 0, .n 6 0, .b false] := (hB41 0 (by decide)).2
      have le42 := (hB41 0 (by decide)).1
      have HB43 := below_then HB40 hb41.out
      refine wp_seq ?_
      refine wp_seq (region_0 [51, 52, 53, 54, 55, 56, 10] [.slice ap m cp, .int .i64 ((m : Nat) : Int), .slice ak m ck, .int .i64 ((m : Nat) : Int), .bool ((wrBT X0 X1 Y0 Y1 I 4096)), .int .i64 2, .int .i64 2] ?_ ?_)
      · refine stpx (fun _ _ => ex_move _) ?_
        refine stpx (fun _ _ => ex_lenR slP2 (m := m) rfl) ?_
        refine stpx (fun _ _ => ex_move _) ?_
        refine stpx (fun _ _ => ex_lenR slR2 (m := m) rfl) ?_
        refine stpx (fun _ _ => ex_move _) ?_
        refine stpc (.int .i64 2) (fun γ w => ex_call (vs := [.int .i64 ((m : Nat) : Int), .int .i64 ((m : Nat) : Int), .bool ((wrBT X0 X1 Y0 Y1 I 4096))]) rfl Tryz.call19 rfl) (fun w h => sumbad_longT m (wrBT X0 X1 Y0 Y1 I 4096) hl _) ?_
        refine stpx (fun _ _ => ex_assign _) ?_
        exact GSteps.nil
      intro w44 hb44
      refine th_r ?_
      have A45 := A42.keep hb44.out
      have HB46 := below_then HB43 hb44.out
      refine wp_seq (region_0 [57, 58] [.int .i64 2, .bool true] ?_ ?_)
      · refine stpx (fun _ _ => ex_move _) ?_
        refine stpx (fun _ _ => ex_neqi rfl rfl _ rfl) ?_
        exact GSteps.nil
      intro w47 hb47
      refine th_r ?_
      have A48 := A45.keep hb47.out
      have HB49 := below_then HB46 hb47.out
      refine wp_cond_true rfl ?_
      refine wp_seq (region_0 [59, 60, 61, 62, 63, 64, 65, 66, 67, 68, 69, 4] [.bool true, .bool true, .int .i64 2, .int .i64 2, .bool true, .bool true, .bool true, sv [.n 6 0, .n 6 0, .n 6 0, .n 6 0, .b false], sv [.n 6 0, .n 6 0, .n 6 0, .n 6 0, .b false], .bool true, .bool true, .bool true] ?_ ?_)
      · refine stpc (.bool true) (fun γ w => ex_call (vs := []) rfl Tryz.call20 rfl) (fun w h => sumalive_v _) ?_
        refine stpx (fun _ _ => ex_move _) ?_
        refine stpx (fun _ _ => ex_move _) ?_
        refine stpx (fun _ _ => ex_move _) ?_
        refine stpx (fun _ _ => ex_eqi rfl rfl _ rfl) ?_
        refine stpx (fun _ _ => ex_pick (r := true) rfl) ?_
        refine stpx (fun _ _ => ex_move _) ?_
        refine stpv (fun γ w h => ex_loads 0 5 (m := [.n 6 0, .n 6 0, .n 6 0, .n 6 0, .b false]) flG2 rfl rfl (A48.keep h.out) rfl rfl) ?_
        refine stpx (fun _ _ => ex_builds stG2 (l := [.n 6 0, .n 6 0, .n 6 0, .n 6 0, .b false]) (vs := []) rfl rfl) ?_
        refine stpx (fun _ _ => ex_eqs gdG2 eqG2 rfl rfl rfl (shG2_of zero_B zero_B zero_B zero_B) (shG2_of zero_B zero_B zero_B zero_B) true (by simp)) ?_
        refine stpx (fun _ _ => ex_pick (r := true) rfl) ?_
        refine stpx (fun _ _ => ex_assign _) ?_
        exact GSteps.nil
      intro w50 hb50
      refine th_r ?_
      have A51 := A48.keep hb50.out
      have HB52 := below_then HB49 hb50.out
      exact wp_ret (th_ret (bodyPost_ret (ret1 Tryz.results4 (res_tmp rfl)) rfl ⟨rfl, HB52⟩))
    · refine wp_seq (region_c 1 (fun _ => 30) (fun _ => 6) (fun _ => 7) (fun _ => segs [.n 6 0, .n 6 0, .n 6 0, .n 6 0, .b false]) (fun _ => segs [.n 6 0, .n 6 0, .n 6 0, .n 6 0, .b false]) [46, 47, 48, 45, 49, 50, 8, 9] (fun γ => [.slice ap m cp, .slice ak mk ck, .tuple #[sv [.n 6 0, .n 6 0, .n 6 0, .n 6 0, .b false], .int .i64 3], .tuple #[sv [.n 6 0, .n 6 0, .n 6 0, .n 6 0, .b false], .int .i64 3], sv [.n 6 0, .n 6 0, .n 6 0, .n 6 0, .b false], .int .i64 3, .pointer (some ⟨γ 0, 0, none⟩), .int .i64 3]) ?_ ?_)
      · refine stpx (fun _ _ => ex_move _) ?_
        refine stpx (fun _ _ => ex_move _) ?_
        refine stpc (.tuple #[sv [.n 6 0, .n 6 0, .n 6 0, .n 6 0, .b false], .int .i64 3]) (fun γ w => ex_call (vs := [.slice ap m cp, .slice ak mk ck]) rfl Tryz.call18 rfl) (fun w h => sumErr2_lenT m mk ap ak cp ck hne _) ?_
        refine stpx (fun _ _ => ex_move _) ?_
        refine stpx (fun _ _ => ex_extract (vs := [sv [.n 6 0, .n 6 0, .n 6 0, .n 6 0, .b false], .int .i64 3]) rfl rfl) ?_
        refine stpx (fun _ _ => ex_extract (vs := [sv [.n 6 0, .n 6 0, .n 6 0, .n 6 0, .b false], .int .i64 3]) rfl rfl) ?_
        refine GSteps.cons (gm_new 0 rfl (fun _ => rfl) (fun _ _ => rfl) (fun γ w => ex_allocs (l := [.n 6 0, .n 6 0, .n 6 0, .n 6 0, .b false]) zG2) rfl (by kernel_rfl)) ?_
        refine GSteps.cons (gm_store 0 rfl rfl (fun _ => rfl) (len_segs (l := [.n 6 0, .n 6 0, .n 6 0, .n 6 0, .b false]) (l' := [.n 6 0, .n 6 0, .n 6 0, .n 6 0, .b false]) rfl) (fun γ w h => ex_stores 0 5 (l := [.n 6 0, .n 6 0, .n 6 0, .n 6 0, .b false]) (m := [.n 6 0, .n 6 0, .n 6 0, .n 6 0, .b false]) flG2.2 rfl rfl rfl rfl h rfl rfl) rfl rfl (by kernel_rfl)) ?_
        refine stpx (fun _ _ => ex_assign _) ?_
        exact GSteps.nil
      intro γ53 w53 hb53 hB53 _
      refine th_r ?_
      have A54 : SB 30 w53 (γ53 0) [.n 6 0, .n 6 0, .n 6 0, .n 6 0, .b false] := (hB53 0 (by decide)).2
      have le54 := (hB53 0 (by decide)).1
      have HB55 := below_then HB40 hb53.out
      refine wp_seq ?_
      refine wp_seq (region_0 [51, 52, 53, 54, 55, 56, 10] [.slice ap m cp, .int .i64 ((m : Nat) : Int), .slice ak mk ck, .int .i64 ((mk : Nat) : Int), .bool ((wrBT X0 X1 Y0 Y1 I 4096)), .int .i64 3, .int .i64 3] ?_ ?_)
      · refine stpx (fun _ _ => ex_move _) ?_
        refine stpx (fun _ _ => ex_lenR slP2 (m := m) rfl) ?_
        refine stpx (fun _ _ => ex_move _) ?_
        refine stpx (fun _ _ => ex_lenR slR2 (m := mk) rfl) ?_
        refine stpx (fun _ _ => ex_move _) ?_
        refine stpc (.int .i64 3) (fun γ w => ex_call (vs := [.int .i64 ((m : Nat) : Int), .int .i64 ((mk : Nat) : Int), .bool ((wrBT X0 X1 Y0 Y1 I 4096))]) rfl Tryz.call19 rfl) (fun w h => sumbad_lenT m mk (wrBT X0 X1 Y0 Y1 I 4096) hne _) ?_
        refine stpx (fun _ _ => ex_assign _) ?_
        exact GSteps.nil
      intro w56 hb56
      refine th_r ?_
      have A57 := A54.keep hb56.out
      have HB58 := below_then HB55 hb56.out
      refine wp_seq (region_0 [57, 58] [.int .i64 3, .bool true] ?_ ?_)
      · refine stpx (fun _ _ => ex_move _) ?_
        refine stpx (fun _ _ => ex_neqi rfl rfl _ rfl) ?_
        exact GSteps.nil
      intro w59 hb59
      refine th_r ?_
      have A60 := A57.keep hb59.out
      have HB61 := below_then HB58 hb59.out
      refine wp_cond_true rfl ?_
      refine wp_seq (region_0 [59, 60, 61, 62, 63, 64, 65, 66, 67, 68, 69, 4] [.bool true, .bool true, .int .i64 3, .int .i64 3, .bool true, .bool true, .bool true, sv [.n 6 0, .n 6 0, .n 6 0, .n 6 0, .b false], sv [.n 6 0, .n 6 0, .n 6 0, .n 6 0, .b false], .bool true, .bool true, .bool true] ?_ ?_)
      · refine stpc (.bool true) (fun γ w => ex_call (vs := []) rfl Tryz.call20 rfl) (fun w h => sumalive_v _) ?_
        refine stpx (fun _ _ => ex_move _) ?_
        refine stpx (fun _ _ => ex_move _) ?_
        refine stpx (fun _ _ => ex_move _) ?_
        refine stpx (fun _ _ => ex_eqi rfl rfl _ rfl) ?_
        refine stpx (fun _ _ => ex_pick (r := true) rfl) ?_
        refine stpx (fun _ _ => ex_move _) ?_
        refine stpv (fun γ w h => ex_loads 0 5 (m := [.n 6 0, .n 6 0, .n 6 0, .n 6 0, .b false]) flG2 rfl rfl (A60.keep h.out) rfl rfl) ?_
        refine stpx (fun _ _ => ex_builds stG2 (l := [.n 6 0, .n 6 0, .n 6 0, .n 6 0, .b false]) (vs := []) rfl rfl) ?_
        refine stpx (fun _ _ => ex_eqs gdG2 eqG2 rfl rfl rfl (shG2_of zero_B zero_B zero_B zero_B) (shG2_of zero_B zero_B zero_B zero_B) true (by simp)) ?_
        refine stpx (fun _ _ => ex_pick (r := true) rfl) ?_
        refine stpx (fun _ _ => ex_assign _) ?_
        exact GSteps.nil
      intro w62 hb62
      refine th_r ?_
      have A63 := A60.keep hb62.out
      have HB64 := below_then HB61 hb62.out
      exact wp_ret (th_ret (bodyPost_ret (ret1 Tryz.results4 (res_tmp rfl)) rfl ⟨rfl, HB64⟩))
theorem sumTwos_vT (m mk : Nat) (ap ak : Option Addr) (cp ck : Nat) (hmc : m ≤ cp) (X0 X1 Y0 Y1 : Nat → Nat) (I : Nat → Bool) (hXY : ∀ i, i < m → X0 i < fpB ∧ X1 i < fpB ∧ Y0 i < fpB ∧ Y1 i < fpB) (A : Nat → Nat) (HA : ∀ i, i < mk → A i < frB) (w : World) (HP : Row w ap 25 m (rw2T X0 X1 Y0 Y1 I)) (HK : Row w ak 4 mk (fun i => [.n 4 (A i)])) :
    Calls Tryz.prog 4 #[.slice ap m cp, .slice ak mk ck] w (Is (.bool true) w) := by
  by_cases h1 : m ≤ 20
  · exact sumTwos_smallT m mk ap ak cp ck hmc h1 X0 X1 Y0 Y1 I hXY A HA w HP HK
  · by_cases h2 : m ≤ 4096
    · exact sumTwos_cutT m mk ap ak cp ck hmc (by omega) h2 X0 X1 Y0 Y1 I hXY A HA w HP HK
    · exact sumTwos_longT m mk ap ak cp ck hmc (by omega) X0 X1 Y0 Y1 I hXY A HA w HP HK
end
end Go.Proofs.YtkkmekdhejhapaaGreat

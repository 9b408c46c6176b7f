/- What is proved here: contracts of the parts of fp's inverse: a wide number's sign, its negative, sums with products, quotients by 2^60. -/
import Derived.Test.YtkkmekdhejhapaaFpInv1
namespace Go.Proofs.Ytkkmekdhejhapaa
open Go.RowKit
set_option maxRecDepth 20000
set_option maxHeartbeats 4000000
theorem or_parts (a b : Nat) (h : a < 2 ^ 64) : bits .or .u64 ((a : Int) / 2 ^ 60) ((b * 2 ^ 4 % 2 ^ 64 : Nat) : Int) = ((a / 2 ^ 60 + b * 2 ^ 4 % 2 ^ 64 : Nat) : Int) := by
  have e : (a : Int) / 2 ^ 60 = ((a / 2 ^ 60 : Nat) : Int) := by simp
  rw [e]
  have l1 : a / 2 ^ 60 < 2 ^ 4 := by omega
  have e2 : b * 2 ^ 4 % 2 ^ 64 = (b % 2 ^ 60) <<< 4 := by
    rw [Nat.shiftLeft_eq]
    omega
  have l2 : b * 2 ^ 4 % 2 ^ 64 < 2 ^ 64 := Nat.mod_lt _ (by decide)
  have ho : a / 2 ^ 60 + b * 2 ^ 4 % 2 ^ 64 = (a / 2 ^ 60) ||| (b * 2 ^ 4 % 2 ^ 64) := by
    rw [e2, Nat.or_comm, ← Nat.shiftLeft_add_eq_or_of_lt l1, Nat.add_comm]
  have l3 : a / 2 ^ 60 + b * 2 ^ 4 % 2 ^ 64 < 2 ^ 64 := by omega
  rw [ho] at l3 ⊢
  generalize a / 2 ^ 60 = x at *
  generalize b * 2 ^ 4 % 2 ^ 64 = y at *
  have h1 : (BitVec.ofInt 64 (x : Int)).toNat = x := by
    rw [BitVec.ofInt_natCast, BitVec.toNat_ofNat]; exact Nat.mod_eq_of_lt (by omega)
  have h2 : (BitVec.ofInt 64 (y : Int)).toNat = y := by
    rw [BitVec.ofInt_natCast, BitVec.toNat_ofNat]; exact Nat.mod_eq_of_lt (by omega)
  show IntKind.u64.wrap ((BitVec.ofInt 64 (x : Int) ||| BitVec.ofInt 64 (y : Int)).toNat : Int) = _
  rw [BitVec.toNat_or, h1, h2, IntKind.wrap_u64]
  omega
theorem cnt_next {k : Nat} (h : k < 1000) : IntKind.i64.wrap ((k : Int) + 1) = ((k + 1 : Nat) : Int) := by
  rw [wrapI64 (by omega) (by omega)]
  omega
theorem cnt_lt {k n : Nat} (h : k < n) : true = decide ((k : Int) < (n : Int)) := by
  rw [eq_comm, decide_eq_true_eq]
  omega
theorem sign_bit {x : Int} (h1 : -(hB : Int) ≤ x) (h2 : x < (hB : Int)) {r : Bool} (hr : r = decide (x < 0)) : r = (((lb (wr x) 6 : Nat) : Int) / 2 ^ 63 == 1) := by
  obtain ⟨s, _⟩ := wr_sign h1 h2
  have hl := lb_lt (wr x) 6
  generalize lb (wr x) 6 = l at *
  have e1 : (2 : Int) ^ 63 = 9223372036854775808 := rfl
  have e2 : (2 : Nat) ^ 63 = 9223372036854775808 := rfl
  have e3 : (2 : Nat) ^ 64 = 18446744073709551616 := rfl
  rw [hr, e1]
  by_cases c : x < 0
  · have := s.2 c
    have h3 : (l : Int) / 9223372036854775808 = 1 := by omega
    rw [decide_eq_true c, h3]
    rfl
  · have h4 : ¬ 2 ^ 63 ≤ l := fun q => c (s.1 q)
    have h3 : (l : Int) / 9223372036854775808 = 0 := by omega
    rw [decide_eq_false c, h3]
    rfl
def tcar (a : Nat) : Nat → Nat
  | 0 => 0
  | i + 1 => difHi 0 a (2 ^ (64 * (i + 1)))
theorem tcar_eq (a i : Nat) : tcar a i = difHi 0 a (2 ^ (64 * i)) := by
  cases i with
  | zero => exact (difHi_one 0 a).symm
  | succ i => rfl
theorem sub64_turn {a k : Nat} (ha : a < wB) (hk : k < 7) (w : World) :
    (callFunc 95 [Value.int .u64 0, .int .u64 ((lb a k : Nat) : Int), .int .u64 ((tcar a k : Nat) : Int)].toArray).run Try.prog w =
      .ok (.value (.tuple #[.int .u64 ((lb (wB - a) k : Nat) : Int), .int .u64 ((tcar a (k + 1) : Nat) : Int)])) w := by
  obtain ⟨e1, e2⟩ := turn_digit (a := a) hk
  rw [Nat.mod_eq_of_lt ha] at e1
  have := sub64_run 0 (lb a k) (tcar a k) (by rw [tcar_eq]; exact difHi_le _ _ _) w
  rw [tcar_eq, e1, e2] at this
  rw [tcar_eq a (k + 1), tcar_eq]
  exact this
theorem mix_turn {x : Int} (h : wr x < wB) : mix (wB - wr x) (wr x) 7 = wr (-x) := by
  rw [mix_full (by rw [← wB_eq]; exact h), ← wB_eq, wr_turn]
def ovr0 (a b k : Nat) : Nat → Nat
  | 0 => 0
  | i + 1 => ovr a b k (i + 1)
theorem ovr0_eq (a b k i : Nat) : ovr0 a b k i = ovr a b k i := by
  cases i with
  | zero => exact (ovr_zero a b k).symm
  | succ i => rfl
def mu1 (y x k q : Nat) : Nat := prHi (lb y q) k + sumHi (prLo (lb y q) k) (lb x q) 0
def mu2 (y x k q : Nat) : Nat := sumHi (sumLo (prLo (lb y q) k) (lb x q) 0) (ovr0 x y k q) 0
theorem plus_all {x y k : Nat} (hk : k < 2 ^ 63) (q : Nat) : mu1 y x k q + mu2 y x k q = ovr x y k (q + 1) ∧ sumLo (sumLo (prLo (lb y q) k) (lb x q) 0) (ovr0 x y k q) 0 = lb (x + y * k) q ∧ ovr x y k (q + 1) < 2 ^ 64 := by
  obtain ⟨e1, e2, e3⟩ := mulAdd_sum (lb y q) k (lb x q) (ovr0 x y k q) (lb_lt _ _) (by omega) (lb_lt _ _) (by rw [ovr0_eq]; exact ovr_lt hk)
  obtain ⟨d1, d2⟩ := plus_digit x y k q
  refine ⟨?_, ?_, ovr_lt hk⟩
  · rw [← d2, ← ovr0_eq]
    exact e1
  · rw [← d1, ← ovr0_eq]
    exact e2
theorem m1_ok {x y k : Nat} (hk : k < 2 ^ 63) (_h : x < wB) (q : Nat) : IntKind.u64.wrap (((prHi (lb y q) k : Nat) : Int) + ((sumHi (prLo (lb y q) k) (lb x q) 0 : Nat) : Int)) = ((mu1 y x k q : Nat) : Int) := by
  obtain ⟨e1, e2, e3⟩ := plus_all (x := x) (y := y) hk q
  rw [wrap64 (by omega) (by unfold mu1 at e1; omega)]
  rfl
theorem m2_ok {x y k : Nat} (hk : k < 2 ^ 63) (q : Nat) : IntKind.u64.wrap (((mu1 y x k q : Nat) : Int) + ((mu2 y x k q : Nat) : Int)) = ((ovr x y k (q + 1) : Nat) : Int) := by
  obtain ⟨e1, e2, e3⟩ := plus_all (x := x) (y := y) hk q
  rw [wrap64 (by omega) (by omega)]
  omega
theorem add64_plus {x y k : Nat} (hk : k < 2 ^ 63) (q : Nat) (w : World) :
    (callFunc 50 [Value.int .u64 ((sumLo (prLo (lb y q) k) (lb x q) 0 : Nat) : Int), .int .u64 ((ovr0 x y k q : Nat) : Int), .int .u64 0].toArray).run Try.prog w =
      .ok (.value (.tuple #[.int .u64 ((lb (x + y * k) q : Nat) : Int), .int .u64 ((mu2 y x k q : Nat) : Int)])) w := by
  obtain ⟨e1, e2, e3⟩ := plus_all (x := x) (y := y) hk q
  rw [← e2]
  exact add64_run0 _ _ w
theorem mul64_is (x y : Nat) (w : World) (hx : x < 2 ^ 64) (hy : y < 2 ^ 64) :
    Calls Try.prog 100 #[.int .u64 (x : Int), .int .u64 (y : Int)] w (Is (.tuple #[.int .u64 ((prHi x y : Nat) : Int), .int .u64 ((prLo x y : Nat) : Int)]) w) :=
  (mul64_named x y w hx hy).mono (by
    rintro e w' ⟨rfl, rfl⟩
    exact ⟨rfl, Below.refl _ _⟩)
theorem mix_plus {x y : Int} {k : Nat} (h : wr x < wB) : mix (wr x + wr y * k) (wr x) 7 = wr (x + y * k) := by
  rw [mix_full (by rw [← wB_eq]; exact h), ← wB_eq, wr_plus]
theorem shl_ok (a : Nat) : IntKind.u64.wrap ((a : Int) * 2 ^ 4) = ((a * 2 ^ 4 % 2 ^ 64 : Nat) : Int) := by
  rw [IntKind.wrap_u64]
  omega
theorem or_ok {x : Int} (h1 : -(hB : Int) ≤ x) (h2 : x < (hB : Int)) {q : Nat} (hq : q < 6) :
    bits .or .u64 (((lb (wr x) q : Nat) : Int) / 2 ^ 60) ((lb (wr x) (q + 1) * 2 ^ 4 % 2 ^ 64 : Nat) : Int) = ((lb (wr (x / 2 ^ 60)) q : Nat) : Int) := by
  rw [← down_limb h1 h2 q hq]
  have hl := lb_lt (wr x) q
  generalize lb (wr x) q = a at *
  generalize lb (wr x) (q + 1) = b at *
  exact or_parts a b hl
theorem mix_down {x y : Int} : mix (wr y) (wr x) 7 = wr y := by
  rw [mix_full (by rw [← wB_eq]; exact wr_lt x), ← wB_eq, Nat.mod_eq_of_lt (wr_lt y)]
theorem top_ok {x : Int} (h1 : -(hB : Int) ≤ x) (h2 : x < (hB : Int)) : IntKind.u64.wrap (IntKind.i64.wrap ((lb (wr x) 6 : Nat) : Int) / 2 ^ 60) = ((lb (wr (x / 2 ^ 60)) 6 : Nat) : Int) := by
  rw [← down_top h1 h2, IntKind.wrap_u64, IntKind.wrap_i64]
  have hl := lb_lt (wr x) 6
  generalize lb (wr x) 6 = a at *
  split <;> omega
theorem wdNeg_v (x : Int) (h1 : -(hB : Int) ≤ x) (h2 : x < (hB : Int)) (r : Bool) (hr : r = decide (x < 0)) : CI 92 #[nv 7 [wr x]] (.bool r) := fun w => by
  have hz := sign_bit h1 h2 hr
  go_enter Try.func92, Try.ntmps92
  refine rh1 (brf w) 114 0 [.n 7 (wr x)] [1, 2] (fun γ => [pz (γ 0), .bool false]) ?_ ?_
  · refine stpb 0 (fun γ w h => ex_boxsn (K := 7) (l := [wr x]) rfl) ?_
    exact stpa .nil
  intro γ1 w1 hb1 A2 _ HB3
  refine rh0 HB3 [3, 4, 5, 6, 2] [pq (γ1 0) 6, .int .u64 ((lb (wr x) 6 : Nat) : Int), .int .u64 (((lb (wr x) 6 : Nat) : Int) / 2 ^ 63), .bool r, .bool r] ?_ ?_
  · refine stpx (fun _ _ => ex_at (i := 6) (g := (γ1 0)) Try.underlying114 Try.sizeOf24 rfl rfl (by decide)) ?_
    refine stpv (fun γ w h => ex_ldl (v := wr x) (o := 6) (A2.keep h.out) (by decide) rfl) ?_
    refine stpx (fun _ _ => ex_shrU (s := 63) rfl rfl (by decide)) ?_
    refine stpx (fun _ _ => ex_eqi rfl rfl r hz) ?_
    exact stpa .nil
  intro w4 hb4 HB6
  exact wpr (ret1 Try.results92 (res_tmp rfl)) HB6
theorem wdTurn_v (x : Int) : CI 93 #[nv 7 [wr x]] (nv 7 [wr (-x)]) := fun w => by
  have hx := wr_lt x
  go_enter Try.func93, Try.ntmps93
  refine rh2 (brf w) 114 0 [.n 7 (wr x)] 114 1 [.n 7 0] [1, 2] (fun γ => [pz (γ 0), pz (γ 1)]) ?_ ?_
  · refine stpb 0 (fun γ w h => ex_boxsn (K := 7) (l := [wr x]) rfl) ?_
    exact stpb 1 (fun γ w h => ex_allocsn (K := 7) (l := [0]) zWd) .nil
  intro γ1 w1 hb1 A2 A3 le2 le3 hn1 HB4
  refine rh0 HB4 [3] [.int .u64 0] ?_ ?_
  · exact stpa .nil
  intro w5 hb5 HB8
  have A6 := A2.keep hb5.out
  have A7 := A3.keep hb5.out
  refine wp_seq ?_
  refine rh0 HB8 [5] [.int .i64 0] ?_ ?_
  · exact stpm .nil
  intro w9 hb9 HB12
  have A10 := A6.keep hb9.out
  have A11 := A7.keep hb9.out
  refine wp_block ?_
  refine wp_loop_by (7) (fun q_ a_ v_ => ∃ j4 j6 j7 j8 j9 j10 j11 j12 j13 j14 j15 j16 j17 j18 : Value, a_ = ⟨#[nv 7 [wr x], pz (γ1 0), pz (γ1 1), .int .u64 ((tcar (wr x) q_ : Nat) : Int), j4, .int .i64 ((q_ : Nat) : Int), j6, j7, j8, j9, j10, j11, j12, j13, j14, j15, j16, j17, j18, undef], []⟩ ∧ SB 114 v_ (γ1 0) [.n 7 (mix (wB - wr x) (wr x) q_)] ∧ SB 114 v_ (γ1 1) [.n 7 0] ∧ Below w.heap.size w v_) ⟨_, _, _, _, _, _, _, _, _, _, _, _, _, _, rfl, (by rw [mix_zero]; exact A10), A11, HB12⟩ ?_ ?_
  · intro k13 hk13
    rintro _ w13 ⟨i13_4, i13_6, i13_7, i13_8, i13_9, i13_10, i13_11, i13_12, i13_13, i13_14, i13_15, i13_16, i13_17, i13_18, rfl, A13_0, A13_1, HB13⟩ K13 hK13
    refine rh0 HB13 [6] [.bool true] ?_ ?_
    · exact stpx (fun _ _ => ex_ilss rfl rfl true (cnt_lt hk13)) .nil
    intro w14 hb14 HB17
    have A15 := A13_0.keep hb14.out
    have A16 := A13_1.keep hb14.out
    refine wp_seq ?_
    refine wp_cond_true rfl ?_
    refine wp_skip ?_
    refine th_r ?_
    refine wp_seq ?_
    refine wp_block ?_
    refine rh0 HB17 [7, 4] [.int .i64 ((k13 : Nat) : Int), .int .i64 ((k13 : Nat) : Int)] ?_ ?_
    · refine stpm ?_
      exact stpa .nil
    intro w18 hb18 HB21
    have A19 := A15.keep hb18.out
    have A20 := A16.keep hb18.out
    refine wp_region_lit ?_
    refine svm (.int .i64 ((k13 : Nat) : Int)) ?_
    refine svm (.int .i64 ((k13 : Nat) : Int)) ?_
    refine sv1 (pq (γ1 0) k13) (ex_at (i := k13) (g := (γ1 0)) Try.underlying114 Try.sizeOf24 rfl rfl hk13) ?_
    refine sv1 (.int .u64 ((lb (wr x) k13 : Nat) : Int)) (ex_ldm (v := mix (wB - wr x) (wr x) k13) (o := k13) A19 hk13 rfl (mix_hi (Nat.le_refl _))) ?_
    refine svm (.int .u64 ((tcar (wr x) k13 : Nat) : Int)) ?_
    refine sv1 (.tuple #[.int .u64 ((lb (wB - wr x) k13 : Nat) : Int), .int .u64 ((tcar (wr x) (k13 + 1) : Nat) : Int)]) (ex_ext (vs := [.int .u64 0, .int .u64 ((lb (wr x) k13 : Nat) : Int), .int .u64 ((tcar (wr x) k13 : Nat) : Int)]) (r := .tuple #[.int .u64 ((lb (wB - wr x) k13 : Nat) : Int), .int .u64 ((tcar (wr x) (k13 + 1) : Nat) : Int)]) rfl (fun w => sub64_turn hx hk13 w) rfl) ?_
    refine svm (.tuple #[.int .u64 ((lb (wB - wr x) k13 : Nat) : Int), .int .u64 ((tcar (wr x) (k13 + 1) : Nat) : Int)]) ?_
    refine sv1 (.int .u64 ((lb (wB - wr x) k13 : Nat) : Int)) (ex_extract rfl rfl) ?_
    refine sv1 (.int .u64 ((tcar (wr x) (k13 + 1) : Nat) : Int)) (ex_extract rfl rfl) ?_
    refine sv1 (pq (γ1 0) k13) (ex_at (i := k13) (g := (γ1 0)) Try.underlying114 Try.sizeOf24 rfl rfl hk13) ?_
    refine ss1 (ex_stl A19 hk13 rfl rfl) ?_
    intro w32 hs32
    have A33 := hs32.limb (v' := mix (wB - wr x) (wr x) (k13 + 1)) A19 (mix_step hk13 rfl)
    have A34 := hs32.other (Ne.symm (hn1 0 1 (by decide) (by decide) (by decide))) A20
    have HB35 := hs32.below HB21 (Nat.le_trans (Nat.le_refl _) le2)
    refine sva (.int .u64 ((tcar (wr x) (k13 + 1) : Nat) : Int)) ?_
    refine wpList_nil ?_
    refine bk_n ?_
    refine th_r ?_
    refine wp_region_lit ?_
    refine sv1 (.int .i64 ((k13 + 1 : Nat) : Int)) (ex_iadd rfl rfl ((k13 + 1 : Nat) : Int) (cnt_next (by omega))) ?_
    refine svm (.int .i64 ((k13 + 1 : Nat) : Int)) ?_
    refine wpList_nil ?_
    refine th_r ?_
    exact hK13.out _ _ ⟨_, _, _, _, _, _, _, _, _, _, _, _, _, _, rfl, A33, A34, HB35⟩
  · rintro _ w37 ⟨i37_4, i37_6, i37_7, i37_8, i37_9, i37_10, i37_11, i37_12, i37_13, i37_14, i37_15, i37_16, i37_17, i37_18, rfl, A37_0, A37_1, HB37⟩ K37
    rw [mix_turn hx] at A37_0
    refine rh0 HB37 [6] [.bool false] ?_ ?_
    · exact stpx (fun _ _ => ex_ilss rfl rfl false rfl) .nil
    intro w38 hb38 HB41
    have A39 := A37_0.keep hb38.out
    have A40 := A37_1.keep hb38.out
    refine wp_seq ?_
    refine wp_cond_false rfl ?_
    refine wp_exit (th_e (th_e (bk_e ?_)))
    refine th_r ?_
    refine rhs HB41 le3 1 0 [.n 7 (wr (-x))] [19] [nv 7 [wr (-x)]] ?_ ?_
    · refine latv (fun γ w h => ex_loadsn (K := 7) 0 1 (m := [wr (-x)]) flWd rfl rfl (A39.keep h.out) rfl rfl) ?_
      exact lato 0 1 flWd.2 (nv_cells 7 [wr (-x)]) A40 .nil
    intro w42 w42_ hb42 hs42 HB48
    have A44 := A40.keep hb42.out
    have A47 := hs42.here 0 1 (l' := [.n 7 (wr (-x))]) A44 rfl rfl rfl
    exact wpr (ret1 Try.results93 (res_nv (K := 7) (l := [wr (-x)]) rfl A47 flWd rfl)) HB48
theorem wdPlus_p (x y : Int) (k : Nat) (hk : k < 2 ^ 63) : CI 94 #[nv 7 [wr x], nv 7 [wr y], .int .i64 (k : Int)] (nv 7 [wr (x + y * k)]) := fun w => by
  have hx := wr_lt x
  go_enter Try.func94, Try.ntmps94
  refine rh3 (brf w) 114 0 [.n 7 (wr x)] 114 1 [.n 7 (wr y)] 114 2 [.n 7 0] [3, 4, 6] (fun γ => [pz (γ 0), pz (γ 1), pz (γ 2)]) ?_ ?_
  · refine stpb 0 (fun γ w h => ex_boxsn (K := 7) (l := [wr x]) rfl) ?_
    refine stpb 1 (fun γ w h => ex_boxsn (K := 7) (l := [wr y]) rfl) ?_
    exact stpb 2 (fun γ w h => ex_allocsn (K := 7) (l := [0]) zWd) .nil
  intro γ1 w1 hb1 A2 A3 A4 le2 _ le4 hn1 HB5
  refine wp_seq ?_
  refine rh0 HB5 [12, 13] [.int .i64 (k : Int), .bool false] ?_ ?_
  · refine stpm ?_
    exact stpx (fun _ _ => ex_ilss rfl rfl false (by rw [eq_comm, decide_eq_false_iff_not]; omega)) .nil
  intro w6 hb6 HB10
  have A7 := A2.keep hb6.out
  have A8 := A3.keep hb6.out
  have A9 := A4.keep hb6.out
  refine wp_cond_false rfl ?_
  refine wp_skip ?_
  refine th_r ?_
  refine rh0 HB10 [7] [.int .u64 0] ?_ ?_
  · exact stpa .nil
  intro w11 hb11 HB15
  have A12 := A7.keep hb11.out
  have A13 := A8.keep hb11.out
  have A14 := A9.keep hb11.out
  refine wp_seq ?_
  refine rh0 HB15 [18] [.int .i64 0] ?_ ?_
  · exact stpm .nil
  intro w16 hb16 HB20
  have A17 := A12.keep hb16.out
  have A18 := A13.keep hb16.out
  have A19 := A14.keep hb16.out
  refine wp_block ?_
  refine wp_loop_by (7) (fun q_ a_ v_ => ∃ j8 j9 j10 j11 j19 j20 j21 j22 j23 j24 j25 j26 j27 j28 j29 j30 j31 j32 j33 j34 j35 j36 j37 j38 j39 j40 j41 j42 j43 j44 j45 j46 j47 j48 j49 j50 j51 j52 : Value, a_ = ⟨List.toArray ((nv 7 [wr x]) :: (nv 7 [wr y]) :: (.int .i64 (k : Int)) :: (pz (γ1 0)) :: (pz (γ1 1)) :: undef :: (pz (γ1 2)) :: (.int .u64 ((ovr0 (wr x) (wr y) k q_ : Nat) : Int)) :: j8 :: j9 :: j10 :: j11 :: (.int .i64 (k : Int)) :: (.bool false) :: undef :: undef :: undef :: undef :: (.int .i64 ((q_ : Nat) : Int)) :: j19 :: j20 :: j21 :: j22 :: j23 :: j24 :: j25 :: j26 :: j27 :: j28 :: j29 :: j30 :: j31 :: j32 :: j33 :: j34 :: j35 :: j36 :: j37 :: j38 :: j39 :: j40 :: j41 :: j42 :: j43 :: j44 :: j45 :: j46 :: j47 :: j48 :: j49 :: j50 :: j51 :: j52 :: undef :: []), []⟩ ∧ SB 114 v_ (γ1 0) [.n 7 (mix (wr x + (wr y) * k) (wr x) q_)] ∧ SB 114 v_ (γ1 1) [.n 7 (wr y)] ∧ SB 114 v_ (γ1 2) [.n 7 0] ∧ Below w.heap.size w v_) ⟨_, _, _, _, _, _, _, _, _, _, _, _, _, _, _, _, _, _, _, _, _, _, _, _, _, _, _, _, _, _, _, _, _, _, _, _, _, _, rfl, (by rw [mix_zero]; exact A17), A18, A19, HB20⟩ ?_ ?_
  · intro k21 hk21
    rintro _ w21 ⟨i21_8, i21_9, i21_10, i21_11, i21_19, i21_20, i21_21, i21_22, i21_23, i21_24, i21_25, i21_26, i21_27, i21_28, i21_29, i21_30, i21_31, i21_32, i21_33, i21_34, i21_35, i21_36, i21_37, i21_38, i21_39, i21_40, i21_41, i21_42, i21_43, i21_44, i21_45, i21_46, i21_47, i21_48, i21_49, i21_50, i21_51, i21_52, rfl, A21_0, A21_1, A21_2, HB21⟩ K21 hK21
    refine rh0 HB21 [19] [.bool true] ?_ ?_
    · exact stpx (fun _ _ => ex_ilss rfl rfl true (cnt_lt hk21)) .nil
    intro w22 hb22 HB26
    have A23 := A21_0.keep hb22.out
    have A24 := A21_1.keep hb22.out
    have A25 := A21_2.keep hb22.out
    refine wp_seq ?_
    refine wp_cond_true rfl ?_
    refine wp_skip ?_
    refine th_r ?_
    refine wp_seq ?_
    refine wp_block ?_
    refine rh0 HB26 [20, 8] [.int .i64 ((k21 : Nat) : Int), .int .i64 ((k21 : Nat) : Int)] ?_ ?_
    · refine stpm ?_
      exact stpa .nil
    intro w27 hb27 HB31
    have A28 := A23.keep hb27.out
    have A29 := A24.keep hb27.out
    have A30 := A25.keep hb27.out
    refine rh0 HB31 [22, 23, 24, 25, 26, 27, 21, 28, 29, 9, 10] [.int .i64 ((k21 : Nat) : Int), pq (γ1 1) k21, .int .u64 ((lb (wr y) k21 : Nat) : Int), .int .i64 (k : Int), .int .u64 (k : Int), .tuple #[.int .u64 ((prHi (lb (wr y) k21) k : Nat) : Int), .int .u64 ((prLo (lb (wr y) k21) k : Nat) : Int)], .tuple #[.int .u64 ((prHi (lb (wr y) k21) k : Nat) : Int), .int .u64 ((prLo (lb (wr y) k21) k : Nat) : Int)], .int .u64 ((prHi (lb (wr y) k21) k : Nat) : Int), .int .u64 ((prLo (lb (wr y) k21) k : Nat) : Int), .int .u64 ((prHi (lb (wr y) k21) k : Nat) : Int), .int .u64 ((prLo (lb (wr y) k21) k : Nat) : Int)] ?_ ?_
    · refine stpm ?_
      refine stpx (fun _ _ => ex_at (i := k21) (g := (γ1 1)) Try.underlying114 Try.sizeOf24 rfl rfl hk21) ?_
      refine stpv (fun γ w h => ex_ldl (v := wr y) (o := k21) (A29.keep h.out) hk21 rfl) ?_
      refine stpm ?_
      refine stpx (fun _ _ => ex_cvIU rfl ((k : Int)) (wrap64 (by omega) (by omega))) ?_
      refine stpc (.tuple #[.int .u64 ((prHi (lb (wr y) k21) k : Nat) : Int), .int .u64 ((prLo (lb (wr y) k21) k : Nat) : Int)]) (fun γ w => ex_call (vs := [.int .u64 ((lb (wr y) k21 : Nat) : Int), .int .u64 (k : Int)]) rfl Try.call100 rfl) (fun w h => mul64_is _ k _ (lb_lt _ _) (by omega)) ?_
      refine stpm ?_
      refine stpx (fun _ _ => ex_extract rfl rfl) ?_
      refine stpx (fun _ _ => ex_extract rfl rfl) ?_
      refine stpa ?_
      exact stpa .nil
    intro w32 hb32 HB36
    have A33 := A28.keep hb32.out
    have A34 := A29.keep hb32.out
    have A35 := A30.keep hb32.out
    refine seq_lit ?_
    refine svm (.int .u64 ((prLo (lb (wr y) k21) k : Nat) : Int)) ?_
    refine svm (.int .i64 ((k21 : Nat) : Int)) ?_
    refine sv1 (pq (γ1 0) k21) (ex_at (i := k21) (g := (γ1 0)) Try.underlying114 Try.sizeOf24 rfl rfl hk21) ?_
    refine sv1 (.int .u64 ((lb (wr x) k21 : Nat) : Int)) (ex_ldm (v := mix (wr x + (wr y) * k) (wr x) k21) (o := k21) A33 hk21 rfl (mix_hi (Nat.le_refl _))) ?_
    refine sv1 (.tuple #[.int .u64 ((sumLo (prLo (lb (wr y) k21) k) (lb (wr x) k21) 0 : Nat) : Int), .int .u64 ((sumHi (prLo (lb (wr y) k21) k) (lb (wr x) k21) 0 : Nat) : Int)]) (ex_ext (vs := [.int .u64 ((prLo (lb (wr y) k21) k : Nat) : Int), .int .u64 ((lb (wr x) k21 : Nat) : Int), .int .u64 0]) (r := .tuple #[.int .u64 ((sumLo (prLo (lb (wr y) k21) k) (lb (wr x) k21) 0 : Nat) : Int), .int .u64 ((sumHi (prLo (lb (wr y) k21) k) (lb (wr x) k21) 0 : Nat) : Int)]) rfl (fun w => add64_run0 _ _ w) rfl) ?_
    refine svm (.tuple #[.int .u64 ((sumLo (prLo (lb (wr y) k21) k) (lb (wr x) k21) 0 : Nat) : Int), .int .u64 ((sumHi (prLo (lb (wr y) k21) k) (lb (wr x) k21) 0 : Nat) : Int)]) ?_
    refine sv1 (.int .u64 ((sumLo (prLo (lb (wr y) k21) k) (lb (wr x) k21) 0 : Nat) : Int)) (ex_extract rfl rfl) ?_
    refine sv1 (.int .u64 ((sumHi (prLo (lb (wr y) k21) k) (lb (wr x) k21) 0 : Nat) : Int)) (ex_extract rfl rfl) ?_
    refine sva (.int .u64 ((sumLo (prLo (lb (wr y) k21) k) (lb (wr x) k21) 0 : Nat) : Int)) ?_
    refine sva (.int .u64 ((sumHi (prLo (lb (wr y) k21) k) (lb (wr x) k21) 0 : Nat) : Int)) ?_
    refine seq_nil ?_
    refine seq_lit ?_
    refine svm (.int .u64 ((prHi (lb (wr y) k21) k : Nat) : Int)) ?_
    refine svm (.int .u64 ((sumHi (prLo (lb (wr y) k21) k) (lb (wr x) k21) 0 : Nat) : Int)) ?_
    refine sv1 (.int .u64 ((mu1 (wr y) (wr x) k k21 : Nat) : Int)) (ex_iadd rfl rfl (((mu1 (wr y) (wr x) k k21 : Nat) : Int)) (m1_ok hk hx k21)) ?_
    refine sva (.int .u64 ((mu1 (wr y) (wr x) k k21 : Nat) : Int)) ?_
    refine seq_nil ?_
    refine rhs HB36 le2 8 k21 [.i .u64 (((lb (wr x + (wr y) * k) k21 : Nat) : Int))] [42, 43, 44, 45, 41, 46, 47, 48, 11] [.int .i64 ((k21 : Nat) : Int), .int .u64 ((sumLo (prLo (lb (wr y) k21) k) (lb (wr x) k21) 0 : Nat) : Int), .int .u64 ((ovr0 (wr x) (wr y) k k21 : Nat) : Int), .tuple #[.int .u64 ((lb (wr x + (wr y) * k) k21 : Nat) : Int), .int .u64 ((mu2 (wr y) (wr x) k k21 : Nat) : Int)], .tuple #[.int .u64 ((lb (wr x + (wr y) * k) k21 : Nat) : Int), .int .u64 ((mu2 (wr y) (wr x) k k21 : Nat) : Int)], .int .u64 ((lb (wr x + (wr y) * k) k21 : Nat) : Int), .int .u64 ((mu2 (wr y) (wr x) k k21 : Nat) : Int), pq (γ1 0) k21, .int .u64 ((mu2 (wr y) (wr x) k k21 : Nat) : Int)] ?_ ?_
    · refine latm ?_
      refine latm ?_
      refine latm ?_
      refine latv (fun γ w h => ex_ext (vs := [.int .u64 ((sumLo (prLo (lb (wr y) k21) k) (lb (wr x) k21) 0 : Nat) : Int), .int .u64 ((ovr0 (wr x) (wr y) k k21 : Nat) : Int), .int .u64 0]) (r := .tuple #[.int .u64 ((lb (wr x + (wr y) * k) k21 : Nat) : Int), .int .u64 ((mu2 (wr y) (wr x) k k21 : Nat) : Int)]) rfl (fun w => add64_plus hk k21 w) rfl) ?_
      refine latm ?_
      refine latv (fun γ w h => ex_extract rfl rfl) ?_
      refine lata (fun γ w h => ex_extract (vs := [.int .u64 ((lb (wr x + (wr y) * k) k21 : Nat) : Int), .int .u64 ((mu2 (wr y) (wr x) k k21 : Nat) : Int)]) rfl rfl) ?_
      refine latv (fun γ w h => ex_at (i := k21) (g := (γ1 0)) Try.underlying114 Try.sizeOf24 rfl rfl hk21) ?_
      refine latw (fun γ w h => ex_stl (A33.keep h.out) hk21 rfl rfl) ?_
      exact lata (fun γ w h => ex_assign _) .nil
    intro w37 w37_ hb37 hs37 HB45
    have A38 := A33.keep hb37.out
    have A39 := A34.keep hb37.out
    have A40 := A35.keep hb37.out
    have A42 := hs37.limb (v' := mix (wr x + (wr y) * k) (wr x) (k21 + 1)) A38 (mix_step hk21 rfl)
    have A43 := hs37.other (Ne.symm (hn1 0 1 (by decide) (by decide) (by decide))) A39
    have A44 := hs37.other (Ne.symm (hn1 0 2 (by decide) (by decide) (by decide))) A40
    refine region_0 [49, 50, 51, 7] [.int .u64 ((mu1 (wr y) (wr x) k k21 : Nat) : Int), .int .u64 ((mu2 (wr y) (wr x) k k21 : Nat) : Int), .int .u64 ((ovr (wr x) (wr y) k (k21 + 1) : Nat) : Int), .int .u64 ((ovr (wr x) (wr y) k (k21 + 1) : Nat) : Int)] ?_ ?_
    · refine stpm ?_
      refine stpm ?_
      refine stpx (fun _ _ => ex_iadd rfl rfl (((ovr (wr x) (wr y) k (k21 + 1) : Nat) : Int)) (m2_ok hk k21)) ?_
      exact stpa .nil
    intro w46 hb46
    have A47 := A42.keep hb46.out
    have A48 := A43.keep hb46.out
    have A49 := A44.keep hb46.out
    have HB50 := below_then HB45 hb46.out
    refine bk_n ?_
    refine th_r ?_
    refine wp_region_lit ?_
    refine sv1 (.int .i64 ((k21 + 1 : Nat) : Int)) (ex_iadd rfl rfl ((k21 + 1 : Nat) : Int) (cnt_next (by omega))) ?_
    refine svm (.int .i64 ((k21 + 1 : Nat) : Int)) ?_
    refine wpList_nil ?_
    refine th_r ?_
    exact hK21.out _ _ ⟨_, _, _, _, _, _, _, _, _, _, _, _, _, _, _, _, _, _, _, _, _, _, _, _, _, _, _, _, _, _, _, _, _, _, _, _, _, _, rfl, A47, A48, A49, HB50⟩
  · rintro _ w51 ⟨i51_8, i51_9, i51_10, i51_11, i51_19, i51_20, i51_21, i51_22, i51_23, i51_24, i51_25, i51_26, i51_27, i51_28, i51_29, i51_30, i51_31, i51_32, i51_33, i51_34, i51_35, i51_36, i51_37, i51_38, i51_39, i51_40, i51_41, i51_42, i51_43, i51_44, i51_45, i51_46, i51_47, i51_48, i51_49, i51_50, i51_51, i51_52, rfl, A51_0, A51_1, A51_2, HB51⟩ K51
    rw [mix_plus hx] at A51_0
    refine rh0 HB51 [19] [.bool false] ?_ ?_
    · exact stpx (fun _ _ => ex_ilss rfl rfl false rfl) .nil
    intro w52 hb52 HB56
    have A53 := A51_0.keep hb52.out
    have A55 := A51_2.keep hb52.out
    refine wp_seq ?_
    refine wp_cond_false rfl ?_
    refine wp_exit (th_e (th_e (bk_e ?_)))
    refine th_r ?_
    refine rhs HB56 le4 1 0 [.n 7 (wr (x + y * k))] [53] [nv 7 [wr (x + y * k)]] ?_ ?_
    · refine latv (fun γ w h => ex_loadsn (K := 7) 0 1 (m := [wr (x + y * k)]) flWd rfl rfl (A53.keep h.out) rfl rfl) ?_
      exact lato 0 1 flWd.2 (nv_cells 7 [wr (x + y * k)]) A55 .nil
    intro w57 w57_ hb57 hs57 HB65
    have A60 := A55.keep hb57.out
    have A64 := hs57.here 0 1 (l' := [.n 7 (wr (x + y * k))]) A60 rfl rfl rfl
    exact wpr (ret1 Try.results94 (res_nv (K := 7) (l := [wr (x + y * k)]) rfl A64 flWd rfl)) HB65
theorem wdPlus_m (x y : Int) (k : Nat) (hk : k < 2 ^ 63) (h0 : 0 < k) : CI 94 #[nv 7 [wr x], nv 7 [wr y], .int .i64 (-(k : Int))] (nv 7 [wr (x + y * -(k : Int))]) := fun w => by
  have hx := wr_lt x
  have hm : wr (x + -y * k) = wr (x + y * -(k : Int)) := by rw [Int.neg_mul, Int.mul_neg]
  go_enter Try.func94, Try.ntmps94
  refine rh3 (brf w) 114 0 [.n 7 (wr x)] 114 1 [.n 7 (wr y)] 114 2 [.n 7 0] [3, 4, 6] (fun γ => [pz (γ 0), pz (γ 1), pz (γ 2)]) ?_ ?_
  · refine stpb 0 (fun γ w h => ex_boxsn (K := 7) (l := [wr x]) rfl) ?_
    refine stpb 1 (fun γ w h => ex_boxsn (K := 7) (l := [wr y]) rfl) ?_
    exact stpb 2 (fun γ w h => ex_allocsn (K := 7) (l := [0]) zWd) .nil
  intro γ1 w1 hb1 A2 A3 A4 le2 le3 le4 hn1 HB5
  refine wp_seq ?_
  refine rh0 HB5 [12, 13] [.int .i64 (-(k : Int)), .bool true] ?_ ?_
  · refine stpm ?_
    exact stpx (fun _ _ => ex_ilss rfl rfl true (by rw [eq_comm, decide_eq_true_eq]; omega)) .nil
  intro w6 hb6 HB10
  have A7 := A2.keep hb6.out
  have A8 := A3.keep hb6.out
  have A9 := A4.keep hb6.out
  refine wp_cond_true rfl ?_
  refine wp_region_lit ?_
  refine sv1 (nv 7 [wr y]) (ex_loadsn (K := 7) 0 1 (m := [wr y]) flWd rfl rfl A8 rfl rfl) ?_
  refine sck HB10 Try.call93 (wdTurn_v y _) ?_
  intro w12 hb12 HB16
  have A13 := A7.keep hb12
  have A14 := A8.keep hb12
  have A15 := A9.keep hb12
  refine svm (.int .i64 (-(k : Int))) ?_
  refine sv1 (.int .i64 (k : Int)) (ex_ineg rfl ((k : Int)) (by rw [Int.neg_neg]; exact wrapI64 (by omega) (by omega))) ?_
  refine ss1 (ex_stores 0 1 (l := [.n 7 (wr y)]) (m := [.n 7 (wr (-y))]) flWd.2 rfl rfl rfl (nv_cells 7 [wr (-y)]) A14 rfl rfl) ?_
  intro w19 hs19
  have A20 := hs19.other (hn1 0 1 (by decide) (by decide) (by decide)) A13
  have A21 := hs19.here 0 1 (l' := [.n 7 (wr (-y))]) A14 rfl rfl rfl
  have A22 := hs19.other (Ne.symm (hn1 1 2 (by decide) (by decide) (by decide))) A15
  have HB23 := hs19.below HB16 (Nat.le_trans (Nat.le_refl _) le3)
  refine sva (.int .i64 (k : Int)) ?_
  refine wpList_nil ?_
  refine th_r ?_
  refine rh0 HB23 [7] [.int .u64 0] ?_ ?_
  · exact stpa .nil
  intro w25 hb25 HB29
  have A26 := A20.keep hb25.out
  have A27 := A21.keep hb25.out
  have A28 := A22.keep hb25.out
  refine wp_seq ?_
  refine rh0 HB29 [18] [.int .i64 0] ?_ ?_
  · exact stpm .nil
  intro w30 hb30 HB34
  have A31 := A26.keep hb30.out
  have A32 := A27.keep hb30.out
  have A33 := A28.keep hb30.out
  refine wp_block ?_
  refine wp_loop_by (7) (fun q_ a_ v_ => ∃ j8 j9 j10 j11 j19 j20 j21 j22 j23 j24 j25 j26 j27 j28 j29 j30 j31 j32 j33 j34 j35 j36 j37 j38 j39 j40 j41 j42 j43 j44 j45 j46 j47 j48 j49 j50 j51 j52 : Value, a_ = ⟨List.toArray ((nv 7 [wr x]) :: (nv 7 [wr y]) :: (.int .i64 (k : Int)) :: (pz (γ1 0)) :: (pz (γ1 1)) :: undef :: (pz (γ1 2)) :: (.int .u64 ((ovr0 (wr x) (wr (-y)) k q_ : Nat) : Int)) :: j8 :: j9 :: j10 :: j11 :: (.int .i64 (-(k : Int))) :: (.bool true) :: (nv 7 [wr y]) :: (nv 7 [wr (-y)]) :: (.int .i64 (-(k : Int))) :: (.int .i64 (k : Int)) :: (.int .i64 ((q_ : Nat) : Int)) :: j19 :: j20 :: j21 :: j22 :: j23 :: j24 :: j25 :: j26 :: j27 :: j28 :: j29 :: j30 :: j31 :: j32 :: j33 :: j34 :: j35 :: j36 :: j37 :: j38 :: j39 :: j40 :: j41 :: j42 :: j43 :: j44 :: j45 :: j46 :: j47 :: j48 :: j49 :: j50 :: j51 :: j52 :: undef :: []), []⟩ ∧ SB 114 v_ (γ1 0) [.n 7 (mix (wr x + (wr (-y)) * k) (wr x) q_)] ∧ SB 114 v_ (γ1 1) [.n 7 (wr (-y))] ∧ SB 114 v_ (γ1 2) [.n 7 0] ∧ Below w.heap.size w v_) ⟨_, _, _, _, _, _, _, _, _, _, _, _, _, _, _, _, _, _, _, _, _, _, _, _, _, _, _, _, _, _, _, _, _, _, _, _, _, _, rfl, (by rw [mix_zero]; exact A31), A32, A33, HB34⟩ ?_ ?_
  · intro k35 hk35
    rintro _ w35 ⟨i35_8, i35_9, i35_10, i35_11, i35_19, i35_20, i35_21, i35_22, i35_23, i35_24, i35_25, i35_26, i35_27, i35_28, i35_29, i35_30, i35_31, i35_32, i35_33, i35_34, i35_35, i35_36, i35_37, i35_38, i35_39, i35_40, i35_41, i35_42, i35_43, i35_44, i35_45, i35_46, i35_47, i35_48, i35_49, i35_50, i35_51, i35_52, rfl, A35_0, A35_1, A35_2, HB35⟩ K35 hK35
    refine rh0 HB35 [19] [.bool true] ?_ ?_
    · exact stpx (fun _ _ => ex_ilss rfl rfl true (cnt_lt hk35)) .nil
    intro w36 hb36 HB40
    have A37 := A35_0.keep hb36.out
    have A38 := A35_1.keep hb36.out
    have A39 := A35_2.keep hb36.out
    refine wp_seq ?_
    refine wp_cond_true rfl ?_
    refine wp_skip ?_
    refine th_r ?_
    refine wp_seq ?_
    refine wp_block ?_
    refine rh0 HB40 [20, 8] [.int .i64 ((k35 : Nat) : Int), .int .i64 ((k35 : Nat) : Int)] ?_ ?_
    · refine stpm ?_
      exact stpa .nil
    intro w41 hb41 HB45
    have A42 := A37.keep hb41.out
    have A43 := A38.keep hb41.out
    have A44 := A39.keep hb41.out
    refine rh0 HB45 [22, 23, 24, 25, 26, 27, 21, 28, 29, 9, 10] [.int .i64 ((k35 : Nat) : Int), pq (γ1 1) k35, .int .u64 ((lb (wr (-y)) k35 : Nat) : Int), .int .i64 (k : Int), .int .u64 (k : Int), .tuple #[.int .u64 ((prHi (lb (wr (-y)) k35) k : Nat) : Int), .int .u64 ((prLo (lb (wr (-y)) k35) k : Nat) : Int)], .tuple #[.int .u64 ((prHi (lb (wr (-y)) k35) k : Nat) : Int), .int .u64 ((prLo (lb (wr (-y)) k35) k : Nat) : Int)], .int .u64 ((prHi (lb (wr (-y)) k35) k : Nat) : Int), .int .u64 ((prLo (lb (wr (-y)) k35) k : Nat) : Int), .int .u64 ((prHi (lb (wr (-y)) k35) k : Nat) : Int), .int .u64 ((prLo (lb (wr (-y)) k35) k : Nat) : Int)] ?_ ?_
    · refine stpm ?_
      refine stpx (fun _ _ => ex_at (i := k35) (g := (γ1 1)) Try.underlying114 Try.sizeOf24 rfl rfl hk35) ?_
      refine stpv (fun γ w h => ex_ldl (v := wr (-y)) (o := k35) (A43.keep h.out) hk35 rfl) ?_
      refine stpm ?_
      refine stpx (fun _ _ => ex_cvIU rfl ((k : Int)) (wrap64 (by omega) (by omega))) ?_
      refine stpc (.tuple #[.int .u64 ((prHi (lb (wr (-y)) k35) k : Nat) : Int), .int .u64 ((prLo (lb (wr (-y)) k35) k : Nat) : Int)]) (fun γ w => ex_call (vs := [.int .u64 ((lb (wr (-y)) k35 : Nat) : Int), .int .u64 (k : Int)]) rfl Try.call100 rfl) (fun w h => mul64_is _ k _ (lb_lt _ _) (by omega)) ?_
      refine stpm ?_
      refine stpx (fun _ _ => ex_extract rfl rfl) ?_
      refine stpx (fun _ _ => ex_extract rfl rfl) ?_
      refine stpa ?_
      exact stpa .nil
    intro w46 hb46 HB50
    have A47 := A42.keep hb46.out
    have A48 := A43.keep hb46.out
    have A49 := A44.keep hb46.out
    refine seq_lit ?_
    refine svm (.int .u64 ((prLo (lb (wr (-y)) k35) k : Nat) : Int)) ?_
    refine svm (.int .i64 ((k35 : Nat) : Int)) ?_
    refine sv1 (pq (γ1 0) k35) (ex_at (i := k35) (g := (γ1 0)) Try.underlying114 Try.sizeOf24 rfl rfl hk35) ?_
    refine sv1 (.int .u64 ((lb (wr x) k35 : Nat) : Int)) (ex_ldm (v := mix (wr x + (wr (-y)) * k) (wr x) k35) (o := k35) A47 hk35 rfl (mix_hi (Nat.le_refl _))) ?_
    refine sv1 (.tuple #[.int .u64 ((sumLo (prLo (lb (wr (-y)) k35) k) (lb (wr x) k35) 0 : Nat) : Int), .int .u64 ((sumHi (prLo (lb (wr (-y)) k35) k) (lb (wr x) k35) 0 : Nat) : Int)]) (ex_ext (vs := [.int .u64 ((prLo (lb (wr (-y)) k35) k : Nat) : Int), .int .u64 ((lb (wr x) k35 : Nat) : Int), .int .u64 0]) (r := .tuple #[.int .u64 ((sumLo (prLo (lb (wr (-y)) k35) k) (lb (wr x) k35) 0 : Nat) : Int), .int .u64 ((sumHi (prLo (lb (wr (-y)) k35) k) (lb (wr x) k35) 0 : Nat) : Int)]) rfl (fun w => add64_run0 _ _ w) rfl) ?_
    refine svm (.tuple #[.int .u64 ((sumLo (prLo (lb (wr (-y)) k35) k) (lb (wr x) k35) 0 : Nat) : Int), .int .u64 ((sumHi (prLo (lb (wr (-y)) k35) k) (lb (wr x) k35) 0 : Nat) : Int)]) ?_
    refine sv1 (.int .u64 ((sumLo (prLo (lb (wr (-y)) k35) k) (lb (wr x) k35) 0 : Nat) : Int)) (ex_extract rfl rfl) ?_
    refine sv1 (.int .u64 ((sumHi (prLo (lb (wr (-y)) k35) k) (lb (wr x) k35) 0 : Nat) : Int)) (ex_extract rfl rfl) ?_
    refine sva (.int .u64 ((sumLo (prLo (lb (wr (-y)) k35) k) (lb (wr x) k35) 0 : Nat) : Int)) ?_
    refine sva (.int .u64 ((sumHi (prLo (lb (wr (-y)) k35) k) (lb (wr x) k35) 0 : Nat) : Int)) ?_
    refine seq_nil ?_
    refine seq_lit ?_
    refine svm (.int .u64 ((prHi (lb (wr (-y)) k35) k : Nat) : Int)) ?_
    refine svm (.int .u64 ((sumHi (prLo (lb (wr (-y)) k35) k) (lb (wr x) k35) 0 : Nat) : Int)) ?_
    refine sv1 (.int .u64 ((mu1 (wr (-y)) (wr x) k k35 : Nat) : Int)) (ex_iadd rfl rfl (((mu1 (wr (-y)) (wr x) k k35 : Nat) : Int)) (m1_ok hk hx k35)) ?_
    refine sva (.int .u64 ((mu1 (wr (-y)) (wr x) k k35 : Nat) : Int)) ?_
    refine seq_nil ?_
    refine rhs HB50 le2 8 k35 [.i .u64 (((lb (wr x + (wr (-y)) * k) k35 : Nat) : Int))] [42, 43, 44, 45, 41, 46, 47, 48, 11] [.int .i64 ((k35 : Nat) : Int), .int .u64 ((sumLo (prLo (lb (wr (-y)) k35) k) (lb (wr x) k35) 0 : Nat) : Int), .int .u64 ((ovr0 (wr x) (wr (-y)) k k35 : Nat) : Int), .tuple #[.int .u64 ((lb (wr x + (wr (-y)) * k) k35 : Nat) : Int), .int .u64 ((mu2 (wr (-y)) (wr x) k k35 : Nat) : Int)], .tuple #[.int .u64 ((lb (wr x + (wr (-y)) * k) k35 : Nat) : Int), .int .u64 ((mu2 (wr (-y)) (wr x) k k35 : Nat) : Int)], .int .u64 ((lb (wr x + (wr (-y)) * k) k35 : Nat) : Int), .int .u64 ((mu2 (wr (-y)) (wr x) k k35 : Nat) : Int), pq (γ1 0) k35, .int .u64 ((mu2 (wr (-y)) (wr x) k k35 : Nat) : Int)] ?_ ?_
    · refine latm ?_
      refine latm ?_
      refine latm ?_
      refine latv (fun γ w h => ex_ext (vs := [.int .u64 ((sumLo (prLo (lb (wr (-y)) k35) k) (lb (wr x) k35) 0 : Nat) : Int), .int .u64 ((ovr0 (wr x) (wr (-y)) k k35 : Nat) : Int), .int .u64 0]) (r := .tuple #[.int .u64 ((lb (wr x + (wr (-y)) * k) k35 : Nat) : Int), .int .u64 ((mu2 (wr (-y)) (wr x) k k35 : Nat) : Int)]) rfl (fun w => add64_plus hk k35 w) rfl) ?_
      refine latm ?_
      refine latv (fun γ w h => ex_extract rfl rfl) ?_
      refine lata (fun γ w h => ex_extract (vs := [.int .u64 ((lb (wr x + (wr (-y)) * k) k35 : Nat) : Int), .int .u64 ((mu2 (wr (-y)) (wr x) k k35 : Nat) : Int)]) rfl rfl) ?_
      refine latv (fun γ w h => ex_at (i := k35) (g := (γ1 0)) Try.underlying114 Try.sizeOf24 rfl rfl hk35) ?_
      refine latw (fun γ w h => ex_stl (A47.keep h.out) hk35 rfl rfl) ?_
      exact lata (fun γ w h => ex_assign _) .nil
    intro w51 w51_ hb51 hs51 HB59
    have A52 := A47.keep hb51.out
    have A53 := A48.keep hb51.out
    have A54 := A49.keep hb51.out
    have A56 := hs51.limb (v' := mix (wr x + (wr (-y)) * k) (wr x) (k35 + 1)) A52 (mix_step hk35 rfl)
    have A57 := hs51.other (Ne.symm (hn1 0 1 (by decide) (by decide) (by decide))) A53
    have A58 := hs51.other (Ne.symm (hn1 0 2 (by decide) (by decide) (by decide))) A54
    refine region_0 [49, 50, 51, 7] [.int .u64 ((mu1 (wr (-y)) (wr x) k k35 : Nat) : Int), .int .u64 ((mu2 (wr (-y)) (wr x) k k35 : Nat) : Int), .int .u64 ((ovr (wr x) (wr (-y)) k (k35 + 1) : Nat) : Int), .int .u64 ((ovr (wr x) (wr (-y)) k (k35 + 1) : Nat) : Int)] ?_ ?_
    · refine stpm ?_
      refine stpm ?_
      refine stpx (fun _ _ => ex_iadd rfl rfl (((ovr (wr x) (wr (-y)) k (k35 + 1) : Nat) : Int)) (m2_ok hk k35)) ?_
      exact stpa .nil
    intro w60 hb60
    have A61 := A56.keep hb60.out
    have A62 := A57.keep hb60.out
    have A63 := A58.keep hb60.out
    have HB64 := below_then HB59 hb60.out
    refine bk_n ?_
    refine th_r ?_
    refine wp_region_lit ?_
    refine sv1 (.int .i64 ((k35 + 1 : Nat) : Int)) (ex_iadd rfl rfl ((k35 + 1 : Nat) : Int) (cnt_next (by omega))) ?_
    refine svm (.int .i64 ((k35 + 1 : Nat) : Int)) ?_
    refine wpList_nil ?_
    refine th_r ?_
    exact hK35.out _ _ ⟨_, _, _, _, _, _, _, _, _, _, _, _, _, _, _, _, _, _, _, _, _, _, _, _, _, _, _, _, _, _, _, _, _, _, _, _, _, _, rfl, A61, A62, A63, HB64⟩
  · rintro _ w65 ⟨i65_8, i65_9, i65_10, i65_11, i65_19, i65_20, i65_21, i65_22, i65_23, i65_24, i65_25, i65_26, i65_27, i65_28, i65_29, i65_30, i65_31, i65_32, i65_33, i65_34, i65_35, i65_36, i65_37, i65_38, i65_39, i65_40, i65_41, i65_42, i65_43, i65_44, i65_45, i65_46, i65_47, i65_48, i65_49, i65_50, i65_51, i65_52, rfl, A65_0, A65_1, A65_2, HB65⟩ K65
    rw [mix_plus hx, hm] at A65_0
    refine rh0 HB65 [19] [.bool false] ?_ ?_
    · exact stpx (fun _ _ => ex_ilss rfl rfl false rfl) .nil
    intro w66 hb66 HB70
    have A67 := A65_0.keep hb66.out
    have A69 := A65_2.keep hb66.out
    refine wp_seq ?_
    refine wp_cond_false rfl ?_
    refine wp_exit (th_e (th_e (bk_e ?_)))
    refine th_r ?_
    refine rhs HB70 le4 1 0 [.n 7 (wr (x + y * -(k : Int)))] [53] [nv 7 [wr (x + y * -(k : Int))]] ?_ ?_
    · refine latv (fun γ w h => ex_loadsn (K := 7) 0 1 (m := [wr (x + y * -(k : Int))]) flWd rfl rfl (A67.keep h.out) rfl rfl) ?_
      exact lato 0 1 flWd.2 (nv_cells 7 [wr (x + y * -(k : Int))]) A69 .nil
    intro w71 w71_ hb71 hs71 HB79
    have A74 := A69.keep hb71.out
    have A78 := hs71.here 0 1 (l' := [.n 7 (wr (x + y * -(k : Int)))]) A74 rfl rfl rfl
    exact wpr (ret1 Try.results94 (res_nv (K := 7) (l := [wr (x + y * -(k : Int))]) rfl A78 flWd rfl)) HB79
theorem wdDown_v (x : Int) (h1 : -(hB : Int) ≤ x) (h2 : x < (hB : Int)) : CI 90 #[nv 7 [wr x]] (nv 7 [wr (x / 2 ^ 60)]) := fun w => by
  have hx := wr_lt x
  go_enter Try.func90, Try.ntmps90
  refine rh2 (brf w) 114 0 [.n 7 (wr x)] 114 1 [.n 7 0] [1, 2] (fun γ => [pz (γ 0), pz (γ 1)]) ?_ ?_
  · refine stpb 0 (fun γ w h => ex_boxsn (K := 7) (l := [wr x]) rfl) ?_
    exact stpb 1 (fun γ w h => ex_allocsn (K := 7) (l := [0]) zWd) .nil
  intro γ1 w1 hb1 A2 A3 le2 le3 hn1 HB4
  refine wp_seq ?_
  refine rh0 HB4 [4] [.int .i64 0] ?_ ?_
  · exact stpm .nil
  intro w5 hb5 HB8
  have A6 := A2.keep hb5.out
  have A7 := A3.keep hb5.out
  refine wp_block ?_
  refine wp_loop_by (6) (fun q_ a_ v_ => ∃ j3 j5 j6 j7 j8 j9 j10 j11 j12 j13 j14 j15 j16 j17 j18 j19 : Value, a_ = ⟨#[nv 7 [wr x], pz (γ1 0), pz (γ1 1), j3, .int .i64 ((q_ : Nat) : Int), j5, j6, j7, j8, j9, j10, j11, j12, j13, j14, j15, j16, j17, j18, j19, undef, undef, undef, undef, undef, undef, undef], []⟩ ∧ SB 114 v_ (γ1 0) [.n 7 (mix (wr (x / 2 ^ 60)) (wr x) q_)] ∧ SB 114 v_ (γ1 1) [.n 7 0] ∧ Below w.heap.size w v_) ⟨_, _, _, _, _, _, _, _, _, _, _, _, _, _, _, _, rfl, (by rw [mix_zero]; exact A6), A7, HB8⟩ ?_ ?_
  · intro k9 hk9
    rintro _ w9 ⟨i9_3, i9_5, i9_6, i9_7, i9_8, i9_9, i9_10, i9_11, i9_12, i9_13, i9_14, i9_15, i9_16, i9_17, i9_18, i9_19, rfl, A9_0, A9_1, HB9⟩ K9 hK9
    refine rh0 HB9 [5] [.bool true] ?_ ?_
    · exact stpx (fun _ _ => ex_ilss rfl rfl true (cnt_lt hk9)) .nil
    intro w10 hb10 HB13
    have A11 := A9_0.keep hb10.out
    have A12 := A9_1.keep hb10.out
    refine wp_seq ?_
    refine wp_cond_true rfl ?_
    refine wp_skip ?_
    refine th_r ?_
    refine wp_seq ?_
    refine wp_block ?_
    refine rh0 HB13 [6, 3] [.int .i64 ((k9 : Nat) : Int), .int .i64 ((k9 : Nat) : Int)] ?_ ?_
    · refine stpm ?_
      exact stpa .nil
    intro w14 hb14 HB17
    have A15 := A11.keep hb14.out
    have A16 := A12.keep hb14.out
    refine region_s 12 ((γ1 0)) k9 (segs [.i .u64 (((lb (wr (x / 2 ^ 60)) k9 : Nat) : Int))]) [7, 8, 9, 10, 11, 12, 13, 14, 15, 16, 17, 18] [.int .i64 ((k9 : Nat) : Int), .int .i64 ((k9 : Nat) : Int), pq (γ1 0) k9, .int .u64 ((lb (wr x) k9 : Nat) : Int), .int .u64 (((lb (wr x) k9 : Nat) : Int) / 2 ^ 60), .int .i64 ((k9 : Nat) : Int), .int .i64 ((k9 + 1 : Nat) : Int), .pointer (some ⟨(γ1 0), k9 + 1, none⟩), .int .u64 ((lb (wr x) (k9 + 1) : Nat) : Int), .int .u64 ((lb (wr x) (k9 + 1) * 2 ^ 4 % 2 ^ 64 : Nat) : Int), .int .u64 ((lb (wr (x / 2 ^ 60)) k9 : Nat) : Int), pq (γ1 0) k9] ?_ ?_
    · refine latm ?_
      refine latm ?_
      refine latv (fun γ w h => ex_at (i := k9) (g := (γ1 0)) Try.underlying114 Try.sizeOf24 rfl rfl (by omega)) ?_
      refine latv (fun γ w h => ex_ldm (v := mix (wr (x / 2 ^ 60)) (wr x) k9) (o := k9) (A15.keep h.out) (by omega) rfl (mix_hi (Nat.le_refl _))) ?_
      refine latv (fun γ w h => ex_shrU (s := 60) rfl rfl (by decide)) ?_
      refine latm ?_
      refine latv (fun γ w h => ex_iadd rfl rfl ((k9 + 1 : Nat) : Int) (cnt_next (by omega))) ?_
      refine latv (fun γ w h => ex_at (i := k9 + 1) (g := (γ1 0)) Try.underlying114 Try.sizeOf24 rfl rfl (by omega)) ?_
      refine latv (fun γ w h => ex_ldm (v := mix (wr (x / 2 ^ 60)) (wr x) k9) (o := k9 + 1) (A15.keep h.out) (by omega) rfl (mix_hi (by omega))) ?_
      refine latv (fun γ w h => ex_shlU (s := 4) rfl rfl (by decide) (((lb (wr x) (k9 + 1) * 2 ^ 4 % 2 ^ 64 : Nat) : Int)) (shl_ok _)) ?_
      refine latv (fun γ w h => ex_bitsor rfl rfl (((lb (wr (x / 2 ^ 60)) k9 : Nat) : Int)) (or_ok h1 h2 hk9)) ?_
      refine latv (fun γ w h => ex_at (i := k9) (g := (γ1 0)) Try.underlying114 Try.sizeOf24 rfl rfl (by omega)) ?_
      exact latw (fun γ w h => ex_stl (A15.keep h.out) (by omega) rfl rfl) .nil
    intro w18 w18_ hb18 hs18
    have A19 := A15.keep hb18.out
    have A20 := A16.keep hb18.out
    have HB21 := below_then HB17 hb18.out
    have A22 := hs18.limb (v' := mix (wr (x / 2 ^ 60)) (wr x) (k9 + 1)) A19 (mix_step (by omega) rfl)
    have A23 := hs18.other (Ne.symm (hn1 0 1 (by decide) (by decide) (by decide))) A20
    have HB24 := hs18.below HB21 (Nat.le_trans (Nat.le_refl _) le2)
    refine bk_n ?_
    refine th_r ?_
    refine wp_region_lit ?_
    refine sv1 (.int .i64 ((k9 + 1 : Nat) : Int)) (ex_iadd rfl rfl ((k9 + 1 : Nat) : Int) (cnt_next (by omega))) ?_
    refine svm (.int .i64 ((k9 + 1 : Nat) : Int)) ?_
    refine wpList_nil ?_
    refine th_r ?_
    exact hK9.out _ _ ⟨_, _, _, _, _, _, _, _, _, _, _, _, _, _, _, _, rfl, A22, A23, HB24⟩
  · rintro _ w25 ⟨i25_3, i25_5, i25_6, i25_7, i25_8, i25_9, i25_10, i25_11, i25_12, i25_13, i25_14, i25_15, i25_16, i25_17, i25_18, i25_19, rfl, A25_0, A25_1, HB25⟩ K25
    refine rh0 HB25 [5] [.bool false] ?_ ?_
    · exact stpx (fun _ _ => ex_ilss rfl rfl false rfl) .nil
    intro w26 hb26 HB29
    have A27 := A25_0.keep hb26.out
    have A28 := A25_1.keep hb26.out
    refine wp_seq ?_
    refine wp_cond_false rfl ?_
    refine wp_exit (th_e (th_e (bk_e ?_)))
    refine th_r ?_
    refine rhs HB29 le2 6 6 [.i .u64 (((lb (wr (x / 2 ^ 60)) 6 : Nat) : Int))] [20, 21, 22, 23, 24, 25] [pq (γ1 0) 6, .int .u64 ((lb (wr x) 6 : Nat) : Int), .int .i64 (IntKind.i64.wrap ((lb (wr x) 6 : Nat) : Int)), .int .i64 ((IntKind.i64.wrap ((lb (wr x) 6 : Nat) : Int)) / 2 ^ 60), .int .u64 ((lb (wr (x / 2 ^ 60)) 6 : Nat) : Int), pq (γ1 0) 6] ?_ ?_
    · refine latv (fun γ w h => ex_at (i := 6) (g := (γ1 0)) Try.underlying114 Try.sizeOf24 rfl rfl (by decide)) ?_
      refine latv (fun γ w h => ex_ldm (v := mix (wr (x / 2 ^ 60)) (wr x) 6) (o := 6) (A27.keep h.out) (by decide) rfl (mix_hi (Nat.le_refl _))) ?_
      refine latv (fun γ w h => ex_cvUI rfl (IntKind.i64.wrap ((lb (wr x) 6 : Nat) : Int)) rfl) ?_
      refine latv (fun γ w h => ex_shrU (s := 60) rfl rfl (by decide)) ?_
      refine latv (fun γ w h => ex_cvIU rfl (((lb (wr (x / 2 ^ 60)) 6 : Nat) : Int)) (top_ok h1 h2)) ?_
      refine latv (fun γ w h => ex_at (i := 6) (g := (γ1 0)) Try.underlying114 Try.sizeOf24 rfl rfl (by decide)) ?_
      exact latw (fun γ w h => ex_stl (A27.keep h.out) (by decide) rfl rfl) .nil
    intro w30 w30_ hb30 hs30 HB36
    have A31 := A27.keep hb30.out
    have A32 := A28.keep hb30.out
    have A34 := hs30.limb (v' := mix (wr (x / 2 ^ 60)) (wr x) 7) A31 (mix_step (by decide) rfl)
    have A35 := hs30.other (Ne.symm (hn1 0 1 (by decide) (by decide) (by decide))) A32
    rw [mix_down] at A34
    · refine rhs HB36 le3 1 0 [.n 7 (wr (x / 2 ^ 60))] [26] [nv 7 [wr (x / 2 ^ 60)]] ?_ ?_
      · refine latv (fun γ w h => ex_loadsn (K := 7) 0 1 (m := [wr (x / 2 ^ 60)]) flWd rfl rfl (A34.keep h.out) rfl rfl) ?_
        exact lato 0 1 flWd.2 (nv_cells 7 [wr (x / 2 ^ 60)]) A35 .nil
      intro w37 w37_ hb37 hs37 HB43
      have A39 := A35.keep hb37.out
      have A42 := hs37.here 0 1 (l' := [.n 7 (wr (x / 2 ^ 60))]) A39 rfl rfl rfl
      exact wpr (ret1 Try.results90 (res_nv (K := 7) (l := [wr (x / 2 ^ 60)]) rfl A42 flWd rfl)) HB43
end Go.Proofs.Ytkkmekdhejhapaa

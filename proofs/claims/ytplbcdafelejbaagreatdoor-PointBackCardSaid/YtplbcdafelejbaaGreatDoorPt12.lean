/- What is proved here: bytes that are all 0: strings.Trim, and the check of zeros; a closure that keeps the first error, and what it takes; the contract of fp.Get; package point, the first curve: bytes that are read: in short, in full. -/
import Derived.Test.YtplbcdafelejbaaGreatDoorLimb
import Derived.Test.YtplbcdafelejbaaGreatDoorComp
import Derived.Test.YtplbcdafelejbaaGreatDoorRef1Fp
import Derived.Test.YtplbcdafelejbaaGreatDoorGet
import Derived.Test.YtplbcdafelejbaaGreatDoorPut
import Derived.Test.YtplbcdafelejbaaGreatDoorPt11
namespace Go.Proofs.YtplbcdafelejbaaGreatDoor
section
open Go.RowKit Cv
set_option maxRecDepth 20000
set_option maxHeartbeats 4000000
theorem byte_0 : true = ((((0 : UInt8).toNat : Nat) : Int) == 0) := rfl
theorem pttrimR_no (T : Nat → List UInt8) (N : Nat → Nat) (n : Nat) (hlen : ∀ q, q ≤ n → (T q).length = N q) (hN : ∀ q, N q < 1000000) (hp : ∀ q, q < n → 0 < N q) (hb : ∀ q, q < n → (T q)[N q - 1]? = some 0) (hc : ∀ q, q < n → (T q).take (N q - 1) = T (q + 1)) (h0 : N n = 0) (w : World) :
    Calls Tryz.prog 194 #[str ((T 0)), .int .u8 0] w (Is (str ((T n))) w) := by
  go_enter Tryz.func194, Tryz.ntmps194
  refine rh0 (brf w) [4] [str []] ?_ ?_
  · exact stpa .nil
  intro w1 hb1 HB2
  refine wp_seq ?_
  refine wp_block ?_
  refine wp_loop_by (n) (fun q_ a_ v_ => ∃ j5 j6 j7 j8 j9 j10 j11 j12 j13 j14 j15 j16 j17 j18 j19 j20 j21 : Value, a_ = ⟨#[str ((T q_)), .int .u8 0, undef, undef, str [], j5, j6, j7, j8, j9, j10, j11, j12, j13, j14, j15, j16, j17, j18, j19, j20, j21, undef], []⟩ ∧ Below w.heap.size w v_) ⟨_, _, _, _, _, _, _, _, _, _, _, _, _, _, _, _, _, rfl, HB2⟩ ?_ ?_
  · intro k3 hk3
    rintro _ w3 ⟨i3_5, i3_6, i3_7, i3_8, i3_9, i3_10, i3_11, i3_12, i3_13, i3_14, i3_15, i3_16, i3_17, i3_18, i3_19, i3_20, i3_21, rfl, HB3⟩ K3 hK3
    refine wp_seq ?_
    refine rh0 HB3 [5, 6, 7, 8, 9, 10, 11, 12, 13, 14, 15, 16] [str ((T k3)), .int .i64 ((N k3 : Nat) : Int), .bool true, .bool true, str ((T k3)), str ((T k3)), .int .i64 ((N k3 : Nat) : Int), .int .i64 (((N k3 - 1) : Nat) : Int), .int .u8 (((0 : UInt8).toNat : Nat) : Int), .int .u8 0, .bool true, .bool true] ?_ ?_
    · refine stpm ?_
      refine stpx (fun _ _ => ex_lenL (l := (T k3)) (n := N k3) rfl (hlen _ (Nat.le_of_lt hk3)) rfl) ?_
      refine stpx (fun _ _ => ex_igtr rfl rfl true (decide_eq_true (by have := hp _ hk3; omega)).symm) ?_
      refine stpm ?_
      refine stpm ?_
      refine stpm ?_
      refine stpx (fun _ _ => ex_lenL (l := (T k3)) (n := N k3) rfl (hlen _ (Nat.le_of_lt hk3)) rfl) ?_
      refine stpx (fun _ _ => ex_isub rfl rfl (((N k3 - 1) : Nat) : Int) (by have := hN k3; have := hp _ hk3; rw [wrapI64 (by omega) (by omega)]; omega)) ?_
      refine stpx (fun _ _ => ex_idxL (l := (T k3)) ((N k3 - 1)) rfl rfl (hb _ hk3)) ?_
      refine stpm ?_
      refine stpx (fun _ _ => ex_eqi rfl rfl true byte_0) ?_
      exact stpx (fun _ _ => ex_pick (r := true) rfl) .nil
    intro w4 hb4 HB5
    refine wp_cond_true rfl ?_
    refine wp_skip ?_
    refine th_r ?_
    refine wp_block ?_
    refine wp_region_lit ?_
    refine sv1 (str ((T k3))) (ex_move _) ?_
    refine sv1 (str ((T k3))) (ex_move _) ?_
    refine sv1 (.int .i64 ((N k3 : Nat) : Int)) (ex_lenL (l := (T k3)) (n := N k3) rfl (hlen _ (Nat.le_of_lt hk3)) rfl) ?_
    refine sv1 (.int .i64 (((N k3 - 1) : Nat) : Int)) (ex_isub rfl rfl (((N k3 - 1) : Nat) : Int) (by have := hN k3; have := hp _ hk3; rw [wrapI64 (by omega) (by omega)]; omega)) ?_
    refine sv1 (str ((T (k3 + 1)))) (ex_toE (l := (T k3)) ((N k3 - 1)) rfl rfl (by rw [hlen _ (Nat.le_of_lt hk3)]; have := hp _ hk3; omega) (hc _ hk3)) ?_
    refine sv1 (str ((T (k3 + 1)))) (ex_assign _) ?_
    refine wpList_nil ?_
    refine bk_n ?_
    refine th_r ?_
    exact hK3.out _ _ ⟨_, _, _, _, _, _, _, _, _, _, _, _, _, _, _, _, _, rfl, HB5⟩
  · rintro _ w6 ⟨i6_5, i6_6, i6_7, i6_8, i6_9, i6_10, i6_11, i6_12, i6_13, i6_14, i6_15, i6_16, i6_17, i6_18, i6_19, i6_20, i6_21, rfl, HB6⟩ K6
    refine wp_seq ?_
    refine rh0 HB6 [5, 6, 7, 8, 9, 10, 11, 12, 13, 14, 15, 16] [str ((T n)), .int .i64 ((N n : Nat) : Int), .bool false, .bool false, undef, undef, undef, undef, undef, undef, undef, .bool false] ?_ ?_
    · refine stpm ?_
      refine stpx (fun _ _ => ex_lenL (l := (T n)) (n := N n) rfl (hlen _ (Nat.le_refl _)) rfl) ?_
      refine stpx (fun _ _ => ex_igtr rfl rfl false (by rw [h0]; rfl)) ?_
      refine stpm ?_
      refine stps ?_
      refine stps ?_
      refine stps ?_
      refine stps ?_
      refine stps ?_
      refine stps ?_
      refine stps ?_
      exact stpx (fun _ _ => ex_pick (r := false) rfl) .nil
    intro w7 hb7 HB8
    refine wp_cond_false rfl ?_
    refine wp_exit (th_e (th_e (bk_e ?_)))
    refine th_r ?_
    refine rh0 HB8 [22, 4] [str ((T n)), str ((T n))] ?_ ?_
    · refine stpm ?_
      exact stpa .nil
    intro w9 hb9 HB10
    exact wp_ret (bodyPost_ret (ret1 Tryz.results194 (res_tmp rfl)) rfl ⟨rfl, HB10⟩)
theorem pttrimL_no (T : Nat → List UInt8) (N : Nat → Nat) (n : Nat) (hlen : ∀ q, q ≤ n → (T q).length = N q) (_hN : ∀ q, N q < 1000000) (hp : ∀ q, q < n → 0 < N q) (hb : ∀ q, q < n → (T q)[0]? = some 0) (hc : ∀ q, q < n → (T q).drop 1 = T (q + 1)) (h0 : N n = 0) (w : World) :
    Calls Tryz.prog 193 #[str ((T 0)), .int .u8 0] w (Is (str ((T n))) w) := by
  go_enter Tryz.func193, Tryz.ntmps193
  refine rh0 (brf w) [4] [str []] ?_ ?_
  · exact stpa .nil
  intro w1 hb1 HB2
  refine wp_seq ?_
  refine wp_block ?_
  refine wp_loop_by (n) (fun q_ a_ v_ => ∃ j5 j6 j7 j8 j9 j10 j11 j12 j13 j14 j15 : Value, a_ = ⟨#[str ((T q_)), .int .u8 0, undef, undef, str [], j5, j6, j7, j8, j9, j10, j11, j12, j13, j14, j15, undef], []⟩ ∧ Below w.heap.size w v_) ⟨_, _, _, _, _, _, _, _, _, _, _, rfl, HB2⟩ ?_ ?_
  · intro k3 hk3
    rintro _ w3 ⟨i3_5, i3_6, i3_7, i3_8, i3_9, i3_10, i3_11, i3_12, i3_13, i3_14, i3_15, rfl, HB3⟩ K3 hK3
    refine wp_seq ?_
    refine rh0 HB3 [5, 6, 7, 8, 9, 10, 11, 12, 13] [str ((T k3)), .int .i64 ((N k3 : Nat) : Int), .bool true, .bool true, str ((T k3)), .int .u8 (((0 : UInt8).toNat : Nat) : Int), .int .u8 0, .bool true, .bool true] ?_ ?_
    · refine stpm ?_
      refine stpx (fun _ _ => ex_lenL (l := (T k3)) (n := N k3) rfl (hlen _ (Nat.le_of_lt hk3)) rfl) ?_
      refine stpx (fun _ _ => ex_igtr rfl rfl true (decide_eq_true (by have := hp _ hk3; omega)).symm) ?_
      refine stpm ?_
      refine stpm ?_
      refine stpx (fun _ _ => ex_idxL (l := (T k3)) 0 rfl rfl (hb _ hk3)) ?_
      refine stpm ?_
      refine stpx (fun _ _ => ex_eqi rfl rfl true byte_0) ?_
      exact stpx (fun _ _ => ex_pick (r := true) rfl) .nil
    intro w4 hb4 HB5
    refine wp_cond_true rfl ?_
    refine wp_skip ?_
    refine th_r ?_
    refine wp_block ?_
    refine wp_region_lit ?_
    refine sv1 (str ((T k3))) (ex_move _) ?_
    refine sv1 (str ((T (k3 + 1)))) (ex_fromE (l := (T k3)) 1 rfl rfl (by rw [hlen _ (Nat.le_of_lt hk3)]; have := hp _ hk3; omega) (hc _ hk3)) ?_
    refine sv1 (str ((T (k3 + 1)))) (ex_assign _) ?_
    refine wpList_nil ?_
    refine bk_n ?_
    refine th_r ?_
    exact hK3.out _ _ ⟨_, _, _, _, _, _, _, _, _, _, _, rfl, HB5⟩
  · rintro _ w6 ⟨i6_5, i6_6, i6_7, i6_8, i6_9, i6_10, i6_11, i6_12, i6_13, i6_14, i6_15, rfl, HB6⟩ K6
    refine wp_seq ?_
    refine rh0 HB6 [5, 6, 7, 8, 9, 10, 11, 12, 13] [str ((T n)), .int .i64 ((N n : Nat) : Int), .bool false, .bool false, undef, undef, undef, undef, .bool false] ?_ ?_
    · refine stpm ?_
      refine stpx (fun _ _ => ex_lenL (l := (T n)) (n := N n) rfl (hlen _ (Nat.le_refl _)) rfl) ?_
      refine stpx (fun _ _ => ex_igtr rfl rfl false (by rw [h0]; rfl)) ?_
      refine stpm ?_
      refine stps ?_
      refine stps ?_
      refine stps ?_
      refine stps ?_
      exact stpx (fun _ _ => ex_pick (r := false) rfl) .nil
    intro w7 hb7 HB8
    refine wp_cond_false rfl ?_
    refine wp_exit (th_e (th_e (bk_e ?_)))
    refine th_r ?_
    refine rh0 HB8 [16, 4] [str ((T n)), str ((T n))] ?_ ?_
    · refine stpm ?_
      exact stpa .nil
    intro w9 hb9 HB10
    exact wp_ret (bodyPost_ret (ret1 Tryz.results193 (res_tmp rfl)) rfl ⟨rfl, HB10⟩)
theorem pttrimR_nil (n : Nat) (hn : n ≤ 500) (w : World) : Calls Tryz.prog 194 #[str ((List.replicate n 0)), .int .u8 0] w (Is (str []) w) := by
  have h := pttrimR_no (fun q => List.replicate (n - q) 0) (fun q => n - q) n (fun q _ => List.length_replicate) (fun q => by show n - q < 1000000; omega) (fun q hq => by show 0 < n - q; omega) (fun q hq => by
    show (List.replicate (n - q) (0 : UInt8))[n - q - 1]? = some 0
    rw [List.getElem?_replicate]
    exact if_pos (by omega)) (fun q hq => by
    show (List.replicate (n - q) (0 : UInt8)).take (n - q - 1) = List.replicate (n - (q + 1)) 0
    rw [List.take_replicate]; congr 1; omega) (Nat.sub_self n) w
  simp only [Nat.sub_zero, Nat.sub_self, List.replicate_zero] at h
  exact h
theorem pttrimL_nil (w : World) : Calls Tryz.prog 193 #[str [], .int .u8 0] w (Is (str []) w) :=
  pttrimL_no (fun _ => []) (fun _ => 0) 0 (fun q _ => rfl) (fun q => by omega) (fun q hq => by omega) (fun q hq => by omega) (fun q hq => rfl) rfl w
theorem pttrim_e (m : List UInt8) (hm : m = []) (w : World) :
    Calls Tryz.prog 165 #[str m, str [0]] w (Is (str m) w) := by
  go_enter Tryz.func165, Tryz.ntmps165
  refine rh0 (brf w) [4] [str []] ?_ ?_
  · exact stpa .nil
  intro w1 hb1 HB2
  refine wp_seq ?_
  refine rh0 HB2 [7, 8, 9, 10, 11, 12] [str m, .bool true, .bool true, undef, undef, .bool true] ?_ ?_
  · refine stpm ?_
    refine stpx (fun _ _ => ex_eqL rfl rfl true (by simp [hm])) ?_
    refine stpm ?_
    refine stps ?_
    refine stps ?_
    exact stpx (fun _ _ => ex_pick (r := true) rfl) .nil
  intro w3 hb3 HB4
  refine wp_cond_true rfl ?_
  refine rh0 HB4 [13, 4] [str m, str m] ?_ ?_
  · refine stpm ?_
    exact stpa .nil
  intro w5 hb5 HB6
  exact wp_ret (th_ret (bodyPost_ret (ret1 Tryz.results165 (res_tmp rfl)) rfl ⟨rfl, HB6⟩))
theorem pttrim_n (m u v : List UInt8) (hm : m ≠ []) (hR : CI 194 #[str m, .int .u8 0] (str u)) (hL : CI 193 #[str u, .int .u8 0] (str v)) (w : World) :
    Calls Tryz.prog 165 #[str m, str [0]] w (Is (str v) w) := by
  go_enter Tryz.func165, Tryz.ntmps165
  refine rh0 (brf w) [4] [str []] ?_ ?_
  · exact stpa .nil
  intro w1 hb1 HB2
  refine wp_seq ?_
  refine rh0 HB2 [7, 8, 9, 10, 11, 12] [str m, .bool false, .bool false, str [0], .bool false, .bool false] ?_ ?_
  · refine stpm ?_
    refine stpx (fun _ _ => ex_eqL rfl rfl false (by simp [hm])) ?_
    refine stpm ?_
    refine stpm ?_
    refine stpx (fun _ _ => ex_eqL rfl rfl false (by simp)) ?_
    exact stpx (fun _ _ => ex_pick (r := false) rfl) .nil
  intro w3 hb3 HB4
  refine wp_cond_false rfl ?_
  refine wp_skip ?_
  refine th_r ?_
  refine wp_seq ?_
  refine rh0 HB4 [14, 15, 16, 17, 18, 19, 20, 21] [str [0], .int .i64 1, .bool true, .bool true, str [0], .int .u8 0, .bool true, .bool true] ?_ ?_
  · refine stpm ?_
    refine stpx (fun _ _ => ex_lenL (l := [0]) (n := 1) rfl rfl rfl) ?_
    refine stpx (fun _ _ => ex_eqi rfl rfl _ rfl) ?_
    refine stpm ?_
    refine stpm ?_
    refine stpx (fun _ _ => ex_idxL (l := [0]) 0 rfl rfl rfl) ?_
    refine stpx (fun _ _ => ex_ilss rfl rfl true rfl) ?_
    exact stpx (fun _ _ => ex_pick (r := true) rfl) .nil
  intro w5 hb5 HB6
  refine wp_cond_true rfl ?_
  refine rh0 HB6 [22, 23, 24, 25, 26, 27, 28, 4] [str m, str [0], .int .u8 0, str u, str [0], .int .u8 0, str v, str v] ?_ ?_
  · refine stpm ?_
    refine stpm ?_
    refine stpx (fun _ _ => ex_idxL (l := [0]) 0 rfl rfl rfl) ?_
    refine stpk Tryz.call194 (fun w h => hR _) ?_
    refine stpm ?_
    refine stpx (fun _ _ => ex_idxL (l := [0]) 0 rfl rfl rfl) ?_
    refine stpk Tryz.call193 (fun w h => hL _) ?_
    exact stpa .nil
  intro w7 hb7 HB8
  exact wp_ret (th_ret (bodyPost_ret (ret1 Tryz.results165 (res_tmp rfl)) rfl ⟨rfl, HB8⟩))
theorem pttrim_zero (m : List UInt8) (hn : m.length ≤ 500) (h : zeros m = true) (w : World) : Calls Tryz.prog 165 #[str m, str [0]] w (Is (str []) w) := by
  by_cases hm : m = []
  · have := pttrim_e m hm w
    rwa [hm] at this ⊢
  · have e := zeros_rep h
    exact pttrim_n m [] [] hm (fun w => by rw [e]; exact pttrimR_nil _ hn w) pttrimL_nil w
theorem ptzeros_yesm (l m v : List UInt8) (hB : CI 130 #[str l] (str m)) (hT : CI 165 #[str m, str [0]] (str v)) (hv : v = []) (w : World) :
    Calls Tryz.prog 128 #[str l] w (Is (.int .i64 0) w) := by
  go_enter Tryz.func128, Tryz.ntmps128
  refine rh0 (brf w) [2] [.int .i64 0] ?_ ?_
  · exact stpa .nil
  intro w1 hb1 HB2
  refine wp_seq ?_
  refine rh0 HB2 [3, 4, 5, 6] [str l, str m, str v, .bool false] ?_ ?_
  · refine stpm ?_
    refine stpk Tryz.call130 (fun w h => hB _) ?_
    refine stpk Tryz.call165 (fun w h => hT _) ?_
    exact stpx (fun _ _ => ex_neqL rfl rfl true (by simp [hv])) .nil
  intro w3 hb3 HB4
  refine wp_cond_false rfl ?_
  refine wp_skip ?_
  refine th_r ?_
  refine rh0 HB4 [2] [.int .i64 0] ?_ ?_
  · exact stpa .nil
  intro w5 hb5 HB6
  exact wp_ret (bodyPost_ret (ret1 Tryz.results128 (res_tmp rfl)) rfl ⟨rfl, HB6⟩)
theorem ptzeros_yes (l : List UInt8) (hl : l ≠ []) (hn : l.length ≤ 400) (h : zeros (low l) = true) (w : World) : Calls Tryz.prog 128 #[str l] w (Is (.int .i64 0) w) :=
  ptzeros_yesm l _ _ (fun w => ptbare_q l hl (by omega) w) (fun w => pttrim_zero _ (by rw [length_low]; omega) h w) rfl w
end

section
section
open Go.RowKit Cv
set_option maxRecDepth 20000
set_option maxHeartbeats 4000000
theorem ptsteps_v (w : World) :
    Calls Tryz.prog 73 #[] w (fun e w' => ∃ g, e = .returned (.func (.func 126) #[] #[pz g]) ∧ SB 27 w' g [.i .i64 0] ∧ w.heap.size ≤ g ∧ Below w.heap.size w w') := by
  go_enter Tryz.func73, Tryz.ntmps73
  refine rh0 (brf w) [0] [.nilFunc] ?_ ?_
  · exact stpa .nil
  intro w1 hb1 HB2
  refine rhc HB2 [(27, 0, 1, [.i .i64 0], [.i .i64 0])] [1] (fun γ => [pz (γ 0)]) ?_ ?_
  · refine stpn 0 (fun γ w => ex_alloc1 zErr rfl) ?_
    exact stpo 0 0 1 sgT0.2 (int_cells .i64 0) .nil
  intro γ3 w3 hb3 hB3 _ HB5
  have A4 : SB 27 w3 (γ3 0) [.i .i64 0] := (hB3 0 rfl).2
  have le4 := (hB3 0 rfl).1
  refine rh0 HB5 [2, 0] [.func (.func 126) #[] #[pz (γ3 0)], .func (.func 126) #[] #[pz (γ3 0)]] ?_ ?_
  · refine stpx (fun _ _ => ex_closure (cs := [pz (γ3 0)]) rfl) ?_
    exact stpa .nil
  intro w6 hb6 HB8
  have A7 := A4.keep hb6.out
  exact wp_ret (bodyPost_ret (ret1 Tryz.results73 (res_tmp rfl)) rfl ⟨_, rfl, A7, (Nat.le_trans HB2.size le4), HB8⟩)
theorem pttake_is (gw : Nat) (f : FuncId) (cs : List Value) (hc : ∀ (args : Array Value) (w : World), (callFunc f args).run Tryz.prog w = .ok (.enter f args) w) (r : Int) (w : World) (hS : ∀ w', Below w.heap.size w w' → Calls Tryz.prog f cs.toArray w' (Is (.int .i64 r) w')) (A : SB 27 w gw [.i .i64 0]) :
    Calls Tryz.prog 126 #[.func (.func f) #[] cs.toArray, pz gw] w (fun en_ w' => en_ = .returned (.int .i64 r) ∧ (Chg gw gw w w' ∧ SB 27 w' gw [.i .i64 r])) := by
  go_enter Tryz.func126, Tryz.ntmps126
  refine rh0 (brf w) [3] [.int .i64 0] ?_ ?_
  · exact stpa .nil
  intro w1 hb1 HBb3
  have A2 := A.keep hb1.out
  have HB4 := (Chg.refl gw gw w).then hb1.out
  refine wp_seq ?_
  refine rh0 HBb3 [4, 5] [.int .i64 0, .bool true] ?_ ?_
  · refine stpv (fun γ w h => ex_load1 0 (s := .i .i64 0) (v := .int .i64 0) sgT0 rfl (A2.keep h.out) rfl rfl rfl) ?_
    exact stpx (fun _ _ => ex_eqi rfl rfl _ rfl) .nil
  intro w5 hb5 HBb7
  have A6 := A2.keep hb5.out
  have HB8 := HB4.then hb5.out
  refine wp_cond_true rfl ?_
  refine wp_region_lit ?_
  refine sv1 (.func (.func f) #[] cs.toArray) (ex_move _) ?_
  refine sc1 (.int .i64 r) (ex_callc (vs := []) (cs := cs) rfl hc rfl) (hS _ HBb7) ?_
  intro w10 hb10
  have A11 := A6.keep hb10
  have HB13 := HB8.then hb10
  refine ss1 (ex_stores 0 1 (l := [.i .i64 0]) (m := [.i .i64 r]) sgT0.2 rfl rfl rfl (int_cells .i64 r) A11 rfl rfl) ?_
  intro w14 hs14
  have A15 := hs14.here 0 1 (l' := [.i .i64 r]) A11 rfl rfl rfl
  have HB16 := HB13.old hs14 (.inl rfl)
  refine wpList_nil ?_
  refine th_r ?_
  refine rq0 [8, 3] [.int .i64 r, .int .i64 r] ?_ ?_
  · refine stpv (fun γ w h => ex_load1 0 (s := .i .i64 r) (v := .int .i64 r) sgT0 rfl (A15.keep h.out) rfl rfl rfl) ?_
    exact stpa .nil
  intro w17 hb17
  have A18 := A15.keep hb17.out
  have HB19 := HB16.then hb17.out
  exact wp_ret (bodyPost_ret (ret1 Tryz.results126 (res_tmp rfl)) rfl ⟨rfl, HB19, A18⟩)
theorem pttake_chg (gw : Nat) (f : FuncId) (cs : List Value) (hc : ∀ (args : Array Value) (w : World), (callFunc f args).run Tryz.prog w = .ok (.enter f args) w) (r : Int) (ga : Nat) (hne : gw ≠ ga) (T : TypeId) (la : List Seg) (w : World) (la0 : List Seg) (B : SB T w ga la0) (hS : ∀ w', Below w.heap.size w w' → Calls Tryz.prog f cs.toArray w' (fun e w2 => e = .returned (.int .i64 r) ∧ (Chg ga ga w' w2 ∧ SB T w2 ga la))) (A : SB 27 w gw [.i .i64 0]) :
    Calls Tryz.prog 126 #[.func (.func f) #[] cs.toArray, pz gw] w (fun en_ w' => en_ = .returned (.int .i64 r) ∧ (Chg gw ga w w' ∧ SB 27 w' gw [.i .i64 r] ∧ SB T w' ga la)) := by
  go_enter Tryz.func126, Tryz.ntmps126
  refine rh0 (brf w) [3] [.int .i64 0] ?_ ?_
  · exact stpa .nil
  intro w1 hb1 HBb4
  have A2 := A.keep hb1.out
  have HB5 := (Chg.refl gw ga w).then hb1.out
  refine wp_seq ?_
  refine rh0 HBb4 [4, 5] [.int .i64 0, .bool true] ?_ ?_
  · refine stpv (fun γ w h => ex_load1 0 (s := .i .i64 0) (v := .int .i64 0) sgT0 rfl (A2.keep h.out) rfl rfl rfl) ?_
    exact stpx (fun _ _ => ex_eqi rfl rfl _ rfl) .nil
  intro w6 hb6 HBb9
  have A7 := A2.keep hb6.out
  have HB10 := HB5.then hb6.out
  refine wp_cond_true rfl ?_
  refine wp_region_lit ?_
  refine sv1 (.func (.func f) #[] cs.toArray) (ex_move _) ?_
  refine sk1 (.int .i64 r) (ex_callc (vs := []) (cs := cs) rfl hc rfl) (hS _ HBb9) ?_
  rintro w12 ⟨hc12, N12_0⟩
  have A13 := hc12.kept _ _ _ hne hne A7
  have HB14 := HB10.trans (hc12.more (.inr rfl) (.inr rfl))
  refine ss1 (ex_stores 0 1 (l := [.i .i64 0]) (m := [.i .i64 r]) sgT0.2 rfl rfl rfl (int_cells .i64 r) A13 rfl rfl) ?_
  intro w15 hs15
  have A16 := hs15.here 0 1 (l' := [.i .i64 r]) A13 rfl rfl rfl
  have A17 := hs15.other (Ne.symm hne) N12_0
  have HB18 := HB14.old hs15 (.inl rfl)
  refine wpList_nil ?_
  refine th_r ?_
  refine rq0 [8, 3] [.int .i64 r, .int .i64 r] ?_ ?_
  · refine stpv (fun γ w h => ex_load1 0 (s := .i .i64 r) (v := .int .i64 r) sgT0 rfl (A16.keep h.out) rfl rfl rfl) ?_
    exact stpa .nil
  intro w19 hb19
  have A20 := A16.keep hb19.out
  have A21 := A17.keep hb19.out
  have HB22 := HB18.then hb19.out
  exact wp_ret (bodyPost_ret (ret1 Tryz.results126 (res_tmp rfl)) rfl ⟨rfl, HB22, A20, A21⟩)
end

section
section
open Go.RowKit
def fpGotV (s : ByteArray) : Nat := if s.size = 48 ∧ bval (bl s) < pN then bval (bl s) else 0
def fpGotE (s : ByteArray) : Int := if s.size = 48 then (if bval (bl s) < pN then 0 else 20) else 3
theorem fpGot_bytes {s : ByteArray} (h : s.size = 48) : bval (bl s) < fpB := by
  have := bval_lt (bl s)
  rw [length_bl, h] at this
  exact Nat.lt_of_lt_of_le this (by decide +kernel)
set_option maxRecDepth 20000 in
set_option maxHeartbeats 4000000 in
theorem fpGet_v (s : ByteArray) (w : World) (v : Nat) (hv : v = fpGotV s) (c : Int) (hc : c = fpGotE s) :
    Calls Tryz.prog 68 #[.string s] w (Is (.tuple #[fpV v, .int .i64 c]) w) := by
  by_cases hs : s.size = 48
  · have h1 : (s.size : Int) = 48 := by omega
    have e8 : ((s.size : Int) != 48) = false := by simp [h1]
    obtain ⟨V, hV⟩ : ∃ V, V = bval (bl s) := ⟨_, rfl⟩
    have HVB := Lib.hid (show V < fpB by rw [hV]; exact fpGot_bytes hs)
    obtain ⟨w1, hw1, z1, hb1, hs1⟩ := fp_lay_z 24 w
    have HW := Lib.hid hw1
    have Z1 := Lib.hid z1
    have HB1 := Lib.hid hb1
    have HR : Hid (∀ r : Bool, r = decide (V < pN) → v = (if r then V else 0) ∧ c = if r then 0 else 20) := (fun r hr => by
      rw [hv, hc, fpGotV, fpGotE, if_pos hs, ← hV]
      by_cases h : V < pN
      · rw [if_pos ⟨hs, h⟩, if_pos h, hr, decide_eq_true h]; exact ⟨rfl, rfl⟩
      · rw [if_neg (fun q => h q.2), if_neg h, hr, decide_eq_false h]; exact ⟨rfl, rfl⟩)
    have HG := fun W => Lib.hid (get_any s 6 W hs (by decide))
    rw [← hV] at HG
    clear hw1 z1 hb1 hv hc h1 hV hs hs1
    go_enter Tryz.func68, Tryz.ntmps68
    go_wp2_with fail
    rw [HW.out]
    refine (HG _).out.mono ?_
    rintro e w2 ⟨g, rfl, ho, hg, hb2⟩
    have V2 := Lib.hid ho.vrow
    have Z2 := Lib.hid (Z1.out.keep hb2)
    have HB2 := Lib.hid (below_then HB1.out hb2)
    clear ho hg hb2 HW HG
    go_wp2_with fail
    refine (fpnumber_v _ 6 6 V _ rfl V2.out).mono ?_
    rintro e w4 ⟨rfl, hb4⟩
    obtain ⟨w5, hw5, o5, hb5, hs5⟩ := fp_lay_v 24 w4 V
    have HW5 := Lib.hid hw5
    have O5 := Lib.hid o5
    have hbb := below_then hb4 hb5
    have Z5 := Lib.hid (Z2.out.keep hbb)
    have HB5 := Lib.hid (below_then HB2.out hbb)
    clear hw5 o5 hb4 hb5 hs5 hbb
    go_wp2_with fail
    rw [HW5.out]
    clear HW5
    obtain ⟨r, hr⟩ : ∃ r, r = decide (V < pN) := ⟨_, rfl⟩
    obtain ⟨hv2, hc2⟩ := HR.out r hr
    refine (fpRight_v V _ HVB.out r hr).mono ?_
    rintro e w6 ⟨rfl, hb6⟩
    have O6 := Lib.hid (O5.out.keep hb6)
    have Z6 := Lib.hid (Z5.out.keep hb6)
    have HB6 := Lib.hid (below_then HB5.out hb6)
    clear hr hb6 O5 Z5 HB5 HR
    cases r
    · have HE := Lib.hid (show fpV v = .agg #[.int .u64 0, .int .u64 0, .int .u64 0, .int .u64 0, .int .u64 0, .int .u64 0] by rw [hv2]; exact fp_lit0)
      have HC := Lib.hid (show c = 20 from hc2)
      clear hv2 hc2 O6
      have ZE := Z6.out
      have m0 := ZE.fpc0
      have m1 := ZE.fpc1
      have m2 := ZE.fpc2
      have m3 := ZE.fpc3
      have m4 := ZE.fpc4
      have m5 := ZE.fpc5
      have q0 := ZE.frozen 0
      have q1 := ZE.frozen 1
      have q2 := ZE.frozen 2
      have q3 := ZE.frozen 3
      have q4 := ZE.frozen 4
      have q5 := ZE.frozen 5
      clear ZE
      go_wp2
      refine bodyPost_ret (v := .tuple #[.agg #[.int .u64 0, .int .u64 0, .int .u64 0, .int .u64 0, .int .u64 0, .int .u64 0], .int .i64 20]) (by simp [results, Tryz.results68, go_sem, m0, m1, m2, m3, m4, m5]) rfl ⟨by rw [HE.out, HC.out], ?_⟩
      exact fp_below HB6.out (by omega) _ _ _ _ _ _
    · have HE := Lib.hid (show v = V from hv2)
      have HC := Lib.hid (show c = 0 from hc2)
      have o6 := O6.out
      have c0 := o6.fpc0
      have c1 := o6.fpc1
      have c2 := o6.fpc2
      have c3 := o6.fpc3
      have c4 := o6.fpc4
      have c5 := o6.fpc5
      clear hv2 hc2 O6 o6
      have ZE := Z6.out
      have m0 := ZE.fpc0
      have m1 := ZE.fpc1
      have m2 := ZE.fpc2
      have m3 := ZE.fpc3
      have m4 := ZE.fpc4
      have m5 := ZE.fpc5
      have q0 := ZE.frozen 0
      have q1 := ZE.frozen 1
      have q2 := ZE.frozen 2
      have q3 := ZE.frozen 3
      have q4 := ZE.frozen 4
      have q5 := ZE.frozen 5
      clear ZE
      go_wp2
      refine bodyPost_ret (v := .tuple #[fpV V, .int .i64 0]) (by simp [results, Tryz.results68, go_sem, m0, m1, m2, m3, m4, m5]) rfl ⟨by rw [HE.out, HC.out], ?_⟩
      exact fp_below HB6.out (by omega) _ _ _ _ _ _
  · have e8 : ((s.size : Int) != 48) = true := by simp; omega
    have HE := Lib.hid (show fpV v = .agg #[.int .u64 0, .int .u64 0, .int .u64 0, .int .u64 0, .int .u64 0, .int .u64 0] by rw [hv, fpGotV, if_neg (fun h => hs h.1)]; exact fp_lit0)
    have HC := Lib.hid (show c = 3 by rw [hc, fpGotE, if_neg hs])
    have hb := Lib.hid (below_alloc w (.cells #[.int .u64 0, .int .u64 0, .int .u64 0, .int .u64 0, .int .u64 0, .int .u64 0] 24))
    clear hv hc hs
    go_enter Tryz.func68, Tryz.ntmps68
    go_wp2
    refine bodyPost_ret (v := .tuple #[.agg #[.int .u64 0, .int .u64 0, .int .u64 0, .int .u64 0, .int .u64 0, .int .u64 0], .int .i64 3]) (by simp [results, Tryz.results68, go_sem]) rfl ⟨by rw [HE.out, HC.out], ?_⟩
    exact hb.out
end

section
open Go.RowKit Cv
set_option maxRecDepth 20000
set_option maxHeartbeats 4000000
theorem ptget_ok (l : List UInt8) (hl : l.length = 48) (hx : bval l < pN) (w : World) : Calls Tryz.prog 68 #[str l] w (Is (.tuple #[nv 6 [(bval l)], .int .i64 0]) w) := by
  rw [nv6]
  refine fpGet_v ⟨l.toArray⟩ w (bval l) ?_ 0 ?_
  · unfold fpGotV; rw [bl_str, size_l, if_pos ⟨hl, hx⟩]
  · unfold fpGotE; rw [bl_str, size_l, if_pos hl, if_pos hx]
theorem pt1ps1_v (gc gs gx : Nat) (n1 : gc ≠ gx) (n2 : gs ≠ gx) (m : List UInt8) (x : Nat) (e : Int) (hR : CI 68 #[str m] (.tuple #[nv 6 [x], .int .i64 e])) (w : World) (Ac : SB 63 w gc cvS1) (As : SB 9 w gs [.v (str m)]) (Ax : SB 24 w gx [.n 6 0]) :
    Calls Tryz.prog 166 #[pz gc, pz gs, pz gx] w (fun en_ w' => en_ = .returned (.int .i64 e) ∧ (Chg gx gx w w' ∧ SB 24 w' gx [.n 6 x])) := by
  go_enter Tryz.func166, Tryz.ntmps166
  refine rq0 [3] [.int .i64 0] ?_ ?_
  · exact stpa .nil
  intro w1 hb1
  have A2 := Ac.keep hb1.out
  have A3 := As.keep hb1.out
  have A4 := Ax.keep hb1.out
  have HB6 := (Chg.refl gx gx w).then hb1.out
  refine seq_lit ?_
  refine sv1 (pq gc 2) (ex_field faCv1_2 rfl) ?_
  refine sv1 (.func (.func 68) #[] #[]) (ex_load1 2 (s := .v (.func (.func 68) #[] #[])) (v := .func (.func 68) #[] #[]) sgT4 rfl A2 rfl rfl rfl) ?_
  refine sv1 (str m) (ex_load1 0 (s := .v (str m)) (v := str m) sgT1 rfl A3 rfl rfl rfl) ?_
  refine sc1 (.tuple #[nv 6 [x], .int .i64 e]) (ex_call (vs := [str m]) rfl Tryz.call68 rfl) (hR _) ?_
  intro w10 hb10
  have A13 := A4.keep hb10
  have HB15 := HB6.then hb10
  refine sv1 (.tuple #[nv 6 [x], .int .i64 e]) (ex_move _) ?_
  refine sv1 (nv 6 [x]) (ex_extract rfl rfl) ?_
  refine sv1 (.int .i64 e) (ex_extract rfl rfl) ?_
  refine ss1 (ex_stores 0 1 (l := [.n 6 0]) (m := [.n 6 x]) flFp.2 rfl rfl rfl (nv_cells 6 [x]) A13 rfl rfl) ?_
  intro w19 hs19
  have A22 := hs19.here 0 1 (l' := [.n 6 x]) A13 rfl rfl rfl
  have HB23 := HB15.old hs19 (.inl rfl)
  refine sv1 (.int .i64 e) (ex_assign _) ?_
  refine seq_nil ?_
  refine seq_lit ?_
  refine sv1 (.int .i64 e) (ex_move _) ?_
  refine sv1 (.int .i64 e) (ex_assign _) ?_
  refine seq_nil ?_
  exact wp_ret (bodyPost_ret (ret1 Tryz.results166 (res_tmp rfl)) rfl ⟨rfl, HB23, A22⟩)
theorem pt1ps2_v (gc gx gy : Nat) (n1 : gc ≠ gy) (n2 : gx ≠ gy) (x : Nat) (y : Nat) (e2 : Int) (hV : CI 69 #[nv 6 [x]] (.tuple #[nv 6 [y], .int .i64 e2])) (w : World) (Ac : SB 63 w gc cvS1) (Ax : SB 24 w gx [.n 6 x]) (Ay : SB 24 w gy [.n 6 0]) :
    Calls Tryz.prog 167 #[pz gc, pz gx, pz gy] w (fun en_ w' => en_ = .returned (.int .i64 e2) ∧ (Chg gy gy w w' ∧ SB 24 w' gy [.n 6 y])) := by
  go_enter Tryz.func167, Tryz.ntmps167
  refine rq0 [3] [.int .i64 0] ?_ ?_
  · exact stpa .nil
  intro w1 hb1
  have A2 := Ac.keep hb1.out
  have A3 := Ax.keep hb1.out
  have A4 := Ay.keep hb1.out
  have HB6 := (Chg.refl gy gy w).then hb1.out
  refine seq_lit ?_
  refine sv1 (pq gc 5) (ex_field faCv1_5 rfl) ?_
  refine sv1 (.func (.func 69) #[] #[]) (ex_load1 5 (s := .v (.func (.func 69) #[] #[])) (v := .func (.func 69) #[] #[]) sgT7 rfl A2 rfl rfl rfl) ?_
  refine sv1 (nv 6 [x]) (ex_loadsn (K := 6) 0 1 (m := [x]) flFp rfl rfl A3 rfl rfl) ?_
  refine sc1 (.tuple #[nv 6 [y], .int .i64 e2]) (ex_call (vs := [nv 6 [x]]) rfl Tryz.call69 rfl) (hV _) ?_
  intro w10 hb10
  have A13 := A4.keep hb10
  have HB15 := HB6.then hb10
  refine sv1 (.tuple #[nv 6 [y], .int .i64 e2]) (ex_move _) ?_
  refine sv1 (nv 6 [y]) (ex_extract rfl rfl) ?_
  refine sv1 (.int .i64 e2) (ex_extract rfl rfl) ?_
  refine ss1 (ex_stores 0 1 (l := [.n 6 0]) (m := [.n 6 y]) flFp.2 rfl rfl rfl (nv_cells 6 [y]) A13 rfl rfl) ?_
  intro w19 hs19
  have A22 := hs19.here 0 1 (l' := [.n 6 y]) A13 rfl rfl rfl
  have HB23 := HB15.old hs19 (.inl rfl)
  refine sv1 (.int .i64 e2) (ex_assign _) ?_
  refine seq_nil ?_
  refine seq_lit ?_
  refine sv1 (.int .i64 e2) (ex_move _) ?_
  refine sv1 (.int .i64 e2) (ex_assign _) ?_
  refine seq_nil ?_
  exact wp_ret (bodyPost_ret (ret1 Tryz.results167 (res_tmp rfl)) rfl ⟨rfl, HB23, A22⟩)
theorem pt1short_bf (m : List UInt8) (x : Nat) (y : Nat) (e2 : Int) (hR : CI 68 #[str m] (.tuple #[nv 6 [x], .int .i64 0])) (hV : CI 69 #[nv 6 [x]] (.tuple #[nv 6 [y], .int .i64 e2])) (w : World) :
    Calls Tryz.prog 129 #[sv cvS1, str m, .bool false] w (Is (.tuple #[sv [.n 6 x, .n 6 y, .b false], .int .i64 e2]) w) := by
  go_enter Tryz.func129, Tryz.ntmps129
  refine rh3 (brf w) (63) 0 cvS1 9 1 [.v (str m)] 26 2 [.n 6 0, .n 6 0, .b false] [3, 4, 6, 7] (fun γ => [pz (γ 0), pz (γ 1), pz (γ 2), .int .i64 0]) ?_ ?_
  · refine stpb 0 (fun γ w h => ex_boxs (l := cvS1) rfl) ?_
    refine stpb 1 (fun γ w h => ex_box1 (s := .v (str m)) rfl rfl) ?_
    refine stpb 2 (fun γ w h => ex_allocs (l := [.n 6 0, .n 6 0, .b false]) zG1) ?_
    exact stpa .nil
  intro γ1 w1 hb1 A2 A3 A4 _ _ le4 hn1 HB5
  refine rh2 HB5 24 0 [.n 6 0] 24 1 [.n 6 0] [8, 9] (fun γ => [pz (γ 0), pz (γ 1)]) ?_ ?_
  · refine stpb 0 (fun γ w h => ex_allocsn (K := 6) (l := [0]) zFp) ?_
    exact stpb 1 (fun γ w h => ex_allocsn (K := 6) (l := [0]) zFp) .nil
  intro γ6 w6 hb6 A10 A11 le10 le11 hn6 HB12
  have A7 := A2.keep hb6.out
  have A8 := A3.keep hb6.out
  have A9 := A4.keep hb6.out
  refine seq_lit ?_
  refine sq_makes (a' := fun g13 => ⟨#[sv cvS1, str m, .bool false, pz (γ1 0), pz (γ1 1), undef, pz (γ1 2), .int .i64 0, pz (γ6 0), pz (γ6 1), undef, undef, .func (.func 126) #[] #[pz g13], undef, undef, undef, undef, undef, undef, undef, undef, undef, undef, undef, undef, undef, undef, undef, undef, undef], []⟩) (val := fun g13 => .func (.func 126) #[] #[pz g13]) (T := 27) (l := [.i .i64 0]) (fun _ => rfl) rfl (ex_call (vs := []) rfl Tryz.call73 rfl) (ptsteps_v _) ?_
  intro g13 w13 N13 le13 hb13
  have A14 := A7.keep hb13
  have A15 := A8.keep hb13
  have A16 := A9.keep hb13
  have A17 := A10.keep hb13
  have A18 := A11.keep hb13
  have HB19 := below_then HB12 hb13
  refine sv1 (.func (.func 126) #[] #[pz g13]) (ex_assign _) ?_
  refine seq_nil ?_
  refine seq_lit ?_
  refine sv1 (.func (.func 126) #[] #[pz g13]) (ex_move _) ?_
  refine sv1 (.func (.func 166) #[] #[pz (γ1 0), pz (γ1 1), pz (γ6 0)]) (ex_closure (cs := [pz (γ1 0), pz (γ1 1), pz (γ6 0)]) rfl) ?_
  refine sk1 (.int .i64 0) (ex_callc (vs := [.func (.func 166) #[] #[pz (γ1 0), pz (γ1 1), pz (γ6 0)]]) (cs := [pz g13]) rfl Tryz.call126 rfl) (pttake_chg g13 166 [pz (γ1 0), pz (γ1 1), pz (γ6 0)] Tryz.call166 0 ((γ6 0)) (Ne.symm (Nat.ne_of_lt (Nat.lt_of_lt_of_le A10.lt le13))) 24 [.n 6 x] _ [.n 6 0] A17 (fun w_ hb_ => pt1ps1_v ((γ1 0)) ((γ1 1)) ((γ6 0)) (Nat.ne_of_lt (Nat.lt_of_lt_of_le A2.lt le10)) (Nat.ne_of_lt (Nat.lt_of_lt_of_le A3.lt le10)) m x 0 hR w_ (A14.keep hb_) (A15.keep hb_) (A17.keep hb_)) N13) ?_
  rintro w23 ⟨hc23, N23_0, N23_1⟩
  have A24 := hc23.kept _ _ _ (Nat.ne_of_lt (Nat.lt_of_lt_of_le A7.lt le13)) (Nat.ne_of_lt (Nat.lt_of_lt_of_le A2.lt le10)) A14
  have A26 := hc23.kept _ _ _ (Nat.ne_of_lt (Nat.lt_of_lt_of_le A9.lt le13)) (Nat.ne_of_lt (Nat.lt_of_lt_of_le A4.lt le10)) A16
  have A27 := hc23.kept _ _ _ (Nat.ne_of_lt (Nat.lt_of_lt_of_le A11.lt le13)) (Ne.symm (hn6 0 1 (by decide) (by decide) (by decide))) A18
  have HB28 := hc23.below HB19 (Nat.le_trans HB12.size le13) (Nat.le_trans HB5.size le10) rfl
  refine seq_nil ?_
  refine seq_lit ?_
  refine sv1 (.func (.func 126) #[] #[pz g13]) (ex_move _) ?_
  refine sv1 (.func (.func 167) #[] #[pz (γ1 0), pz (γ6 0), pz (γ6 1)]) (ex_closure (cs := [pz (γ1 0), pz (γ6 0), pz (γ6 1)]) rfl) ?_
  refine sk1 (.int .i64 e2) (ex_callc (vs := [.func (.func 167) #[] #[pz (γ1 0), pz (γ6 0), pz (γ6 1)]]) (cs := [pz g13]) rfl Tryz.call126 rfl) (pttake_chg g13 167 [pz (γ1 0), pz (γ6 0), pz (γ6 1)] Tryz.call167 e2 ((γ6 1)) (Ne.symm (Nat.ne_of_lt (Nat.lt_of_lt_of_le A11.lt le13))) 24 [.n 6 y] _ [.n 6 0] A27 (fun w_ hb_ => pt1ps2_v ((γ1 0)) ((γ6 0)) ((γ6 1)) (Nat.ne_of_lt (Nat.lt_of_lt_of_le A2.lt le11)) (hn6 0 1 (by decide) (by decide) (by decide)) x y e2 hV w_ (A24.keep hb_) (N23_1.keep hb_) (A27.keep hb_)) N23_0) ?_
  rintro w31 ⟨hc31, N31_0, N31_1⟩
  have A32 := hc31.kept _ _ _ (Nat.ne_of_lt (Nat.lt_of_lt_of_le A7.lt le13)) (Nat.ne_of_lt (Nat.lt_of_lt_of_le A2.lt le11)) A24
  have A34 := hc31.kept _ _ _ (Nat.ne_of_lt (Nat.lt_of_lt_of_le A9.lt le13)) (Nat.ne_of_lt (Nat.lt_of_lt_of_le A4.lt le11)) A26
  have A35 := hc31.kept _ _ _ (Nat.ne_of_lt (Nat.lt_of_lt_of_le A10.lt le13)) (hn6 0 1 (by decide) (by decide) (by decide)) N23_1
  have HB36 := hc31.below HB28 (Nat.le_trans HB12.size le13) (Nat.le_trans HB5.size le11) rfl
  refine sv1 (.int .i64 e2) (ex_assign _) ?_
  refine seq_nil ?_
  refine wp_seq ?_
  refine rh0 HB36 [19] [.bool false] ?_ ?_
  · exact stpm .nil
  intro w38 hb38 HB45
  have A39 := A32.keep hb38.out
  have A41 := A34.keep hb38.out
  have A42 := A35.keep hb38.out
  have A43 := N31_1.keep hb38.out
  refine wp_cond_false rfl ?_
  refine wp_skip ?_
  refine th_r ?_
  refine seq_lit ?_
  refine sv1 (pq (γ1 0) 7) (ex_field faCv1_7 rfl) ?_
  refine sv1 (.func (.func 70) #[] #[]) (ex_load1 7 (s := .v (.func (.func 70) #[] #[])) (v := .func (.func 70) #[] #[]) sgT9 rfl A39 rfl rfl rfl) ?_
  refine sv1 (nv 6 [x]) (ex_loadsn (K := 6) 0 1 (m := [x]) flFp rfl rfl A42 rfl rfl) ?_
  refine sv1 (nv 6 [y]) (ex_loadsn (K := 6) 0 1 (m := [y]) flFp rfl rfl A43 rfl rfl) ?_
  refine sck HB45 Tryz.call70 (pt1made_v x y _) ?_
  intro w50 hb50 HB57
  have A53 := A41.keep hb50
  refine sv1 (.int .i64 e2) (ex_move _) ?_
  refine ss1 (ex_stores 0 3 (l := [.n 6 0, .n 6 0, .b false]) (m := [.n 6 x, .n 6 y, .b false]) flG1.2 rfl rfl rfl rfl A53 rfl rfl) ?_
  intro w59 hs59
  have A62 := hs59.here 0 3 (l' := [.n 6 x, .n 6 y, .b false]) A53 rfl rfl rfl
  have HB66 := hs59.below HB57 (Nat.le_trans (Nat.le_refl _) le4)
  refine sv1 (.int .i64 e2) (ex_assign _) ?_
  refine seq_nil ?_
  exact wp_ret (bodyPost_ret (ret2 Tryz.results129 (res_sv rfl A62 flG1 rfl) (res_tmp rfl)) rfl ⟨rfl, HB66⟩)
theorem pt1short_bt (m : List UInt8) (x : Nat) (y : Nat) (e2 : Int) (hR : CI 68 #[str m] (.tuple #[nv 6 [x], .int .i64 0])) (hV : CI 69 #[nv 6 [x]] (.tuple #[nv 6 [y], .int .i64 e2])) (z : Nat) (hN : CI 45 #[nv 6 [y]] (nv 6 [z])) (w : World) :
    Calls Tryz.prog 129 #[sv cvS1, str m, .bool true] w (Is (.tuple #[sv [.n 6 x, .n 6 z, .b false], .int .i64 e2]) w) := by
  go_enter Tryz.func129, Tryz.ntmps129
  refine rh3 (brf w) (63) 0 cvS1 9 1 [.v (str m)] 26 2 [.n 6 0, .n 6 0, .b false] [3, 4, 6, 7] (fun γ => [pz (γ 0), pz (γ 1), pz (γ 2), .int .i64 0]) ?_ ?_
  · refine stpb 0 (fun γ w h => ex_boxs (l := cvS1) rfl) ?_
    refine stpb 1 (fun γ w h => ex_box1 (s := .v (str m)) rfl rfl) ?_
    refine stpb 2 (fun γ w h => ex_allocs (l := [.n 6 0, .n 6 0, .b false]) zG1) ?_
    exact stpa .nil
  intro γ1 w1 hb1 A2 A3 A4 _ _ le4 hn1 HB5
  refine rh2 HB5 24 0 [.n 6 0] 24 1 [.n 6 0] [8, 9] (fun γ => [pz (γ 0), pz (γ 1)]) ?_ ?_
  · refine stpb 0 (fun γ w h => ex_allocsn (K := 6) (l := [0]) zFp) ?_
    exact stpb 1 (fun γ w h => ex_allocsn (K := 6) (l := [0]) zFp) .nil
  intro γ6 w6 hb6 A10 A11 le10 le11 hn6 HB12
  have A7 := A2.keep hb6.out
  have A8 := A3.keep hb6.out
  have A9 := A4.keep hb6.out
  refine seq_lit ?_
  refine sq_makes (a' := fun g13 => ⟨#[sv cvS1, str m, .bool true, pz (γ1 0), pz (γ1 1), undef, pz (γ1 2), .int .i64 0, pz (γ6 0), pz (γ6 1), undef, undef, .func (.func 126) #[] #[pz g13], undef, undef, undef, undef, undef, undef, undef, undef, undef, undef, undef, undef, undef, undef, undef, undef, undef], []⟩) (val := fun g13 => .func (.func 126) #[] #[pz g13]) (T := 27) (l := [.i .i64 0]) (fun _ => rfl) rfl (ex_call (vs := []) rfl Tryz.call73 rfl) (ptsteps_v _) ?_
  intro g13 w13 N13 le13 hb13
  have A14 := A7.keep hb13
  have A15 := A8.keep hb13
  have A16 := A9.keep hb13
  have A17 := A10.keep hb13
  have A18 := A11.keep hb13
  have HB19 := below_then HB12 hb13
  refine sv1 (.func (.func 126) #[] #[pz g13]) (ex_assign _) ?_
  refine seq_nil ?_
  refine seq_lit ?_
  refine sv1 (.func (.func 126) #[] #[pz g13]) (ex_move _) ?_
  refine sv1 (.func (.func 166) #[] #[pz (γ1 0), pz (γ1 1), pz (γ6 0)]) (ex_closure (cs := [pz (γ1 0), pz (γ1 1), pz (γ6 0)]) rfl) ?_
  refine sk1 (.int .i64 0) (ex_callc (vs := [.func (.func 166) #[] #[pz (γ1 0), pz (γ1 1), pz (γ6 0)]]) (cs := [pz g13]) rfl Tryz.call126 rfl) (pttake_chg g13 166 [pz (γ1 0), pz (γ1 1), pz (γ6 0)] Tryz.call166 0 ((γ6 0)) (Ne.symm (Nat.ne_of_lt (Nat.lt_of_lt_of_le A10.lt le13))) 24 [.n 6 x] _ [.n 6 0] A17 (fun w_ hb_ => pt1ps1_v ((γ1 0)) ((γ1 1)) ((γ6 0)) (Nat.ne_of_lt (Nat.lt_of_lt_of_le A2.lt le10)) (Nat.ne_of_lt (Nat.lt_of_lt_of_le A3.lt le10)) m x 0 hR w_ (A14.keep hb_) (A15.keep hb_) (A17.keep hb_)) N13) ?_
  rintro w23 ⟨hc23, N23_0, N23_1⟩
  have A24 := hc23.kept _ _ _ (Nat.ne_of_lt (Nat.lt_of_lt_of_le A7.lt le13)) (Nat.ne_of_lt (Nat.lt_of_lt_of_le A2.lt le10)) A14
  have A26 := hc23.kept _ _ _ (Nat.ne_of_lt (Nat.lt_of_lt_of_le A9.lt le13)) (Nat.ne_of_lt (Nat.lt_of_lt_of_le A4.lt le10)) A16
  have A27 := hc23.kept _ _ _ (Nat.ne_of_lt (Nat.lt_of_lt_of_le A11.lt le13)) (Ne.symm (hn6 0 1 (by decide) (by decide) (by decide))) A18
  have HB28 := hc23.below HB19 (Nat.le_trans HB12.size le13) (Nat.le_trans HB5.size le10) rfl
  refine seq_nil ?_
  refine seq_lit ?_
  refine sv1 (.func (.func 126) #[] #[pz g13]) (ex_move _) ?_
  refine sv1 (.func (.func 167) #[] #[pz (γ1 0), pz (γ6 0), pz (γ6 1)]) (ex_closure (cs := [pz (γ1 0), pz (γ6 0), pz (γ6 1)]) rfl) ?_
  refine sk1 (.int .i64 e2) (ex_callc (vs := [.func (.func 167) #[] #[pz (γ1 0), pz (γ6 0), pz (γ6 1)]]) (cs := [pz g13]) rfl Tryz.call126 rfl) (pttake_chg g13 167 [pz (γ1 0), pz (γ6 0), pz (γ6 1)] Tryz.call167 e2 ((γ6 1)) (Ne.symm (Nat.ne_of_lt (Nat.lt_of_lt_of_le A11.lt le13))) 24 [.n 6 y] _ [.n 6 0] A27 (fun w_ hb_ => pt1ps2_v ((γ1 0)) ((γ6 0)) ((γ6 1)) (Nat.ne_of_lt (Nat.lt_of_lt_of_le A2.lt le11)) (hn6 0 1 (by decide) (by decide) (by decide)) x y e2 hV w_ (A24.keep hb_) (N23_1.keep hb_) (A27.keep hb_)) N23_0) ?_
  rintro w31 ⟨hc31, N31_0, N31_1⟩
  have A32 := hc31.kept _ _ _ (Nat.ne_of_lt (Nat.lt_of_lt_of_le A7.lt le13)) (Nat.ne_of_lt (Nat.lt_of_lt_of_le A2.lt le11)) A24
  have A34 := hc31.kept _ _ _ (Nat.ne_of_lt (Nat.lt_of_lt_of_le A9.lt le13)) (Nat.ne_of_lt (Nat.lt_of_lt_of_le A4.lt le11)) A26
  have A35 := hc31.kept _ _ _ (Nat.ne_of_lt (Nat.lt_of_lt_of_le A10.lt le13)) (hn6 0 1 (by decide) (by decide) (by decide)) N23_1
  have HB36 := hc31.below HB28 (Nat.le_trans HB12.size le13) (Nat.le_trans HB5.size le11) rfl
  refine sv1 (.int .i64 e2) (ex_assign _) ?_
  refine seq_nil ?_
  refine wp_seq ?_
  refine rh0 HB36 [19] [.bool true] ?_ ?_
  · exact stpm .nil
  intro w38 hb38 HB45
  have A39 := A32.keep hb38.out
  have A41 := A34.keep hb38.out
  have A42 := A35.keep hb38.out
  have A43 := N31_1.keep hb38.out
  refine wp_cond_true rfl ?_
  refine wp_region_lit ?_
  refine sv1 (pq (γ1 0) 4) (ex_field faCv1_4 rfl) ?_
  refine sv1 (.func (.func 45) #[] #[]) (ex_load1 4 (s := .v (.func (.func 45) #[] #[])) (v := .func (.func 45) #[] #[]) sgT6 rfl A39 rfl rfl rfl) ?_
  refine sv1 (nv 6 [y]) (ex_loadsn (K := 6) 0 1 (m := [y]) flFp rfl rfl A43 rfl rfl) ?_
  refine sck HB45 Tryz.call45 (hN _) ?_
  intro w49 hb49 HB56
  have A50 := A39.keep hb49
  have A52 := A41.keep hb49
  have A53 := A42.keep hb49
  have A54 := A43.keep hb49
  refine ss1 (ex_stores 0 1 (l := [.n 6 y]) (m := [.n 6 z]) flFp.2 rfl rfl rfl (nv_cells 6 [z]) A54 rfl rfl) ?_
  intro w57 hs57
  have A58 := hs57.other (Nat.ne_of_lt (Nat.lt_of_lt_of_le A2.lt le11)) A50
  have A60 := hs57.other (Nat.ne_of_lt (Nat.lt_of_lt_of_le A4.lt le11)) A52
  have A61 := hs57.other (hn6 0 1 (by decide) (by decide) (by decide)) A53
  have A62 := hs57.here 0 1 (l' := [.n 6 z]) A54 rfl rfl rfl
  have HB64 := hs57.below HB56 (Nat.le_trans HB5.size le11)
  refine wpList_nil ?_
  refine th_r ?_
  refine seq_lit ?_
  refine sv1 (pq (γ1 0) 7) (ex_field faCv1_7 rfl) ?_
  refine sv1 (.func (.func 70) #[] #[]) (ex_load1 7 (s := .v (.func (.func 70) #[] #[])) (v := .func (.func 70) #[] #[]) sgT9 rfl A58 rfl rfl rfl) ?_
  refine sv1 (nv 6 [x]) (ex_loadsn (K := 6) 0 1 (m := [x]) flFp rfl rfl A61 rfl rfl) ?_
  refine sv1 (nv 6 [z]) (ex_loadsn (K := 6) 0 1 (m := [z]) flFp rfl rfl A62 rfl rfl) ?_
  refine sck HB64 Tryz.call70 (pt1made_v x z _) ?_
  intro w69 hb69 HB76
  have A72 := A60.keep hb69
  refine sv1 (.int .i64 e2) (ex_move _) ?_
  refine ss1 (ex_stores 0 3 (l := [.n 6 0, .n 6 0, .b false]) (m := [.n 6 x, .n 6 z, .b false]) flG1.2 rfl rfl rfl rfl A72 rfl rfl) ?_
  intro w78 hs78
  have A81 := hs78.here 0 3 (l' := [.n 6 x, .n 6 z, .b false]) A72 rfl rfl rfl
  have HB85 := hs78.below HB76 (Nat.le_trans (Nat.le_refl _) le4)
  refine sv1 (.int .i64 e2) (ex_assign _) ?_
  refine seq_nil ?_
  exact wp_ret (bodyPost_ret (ret2 Tryz.results129 (res_sv rfl A81 flG1 rfl) (res_tmp rfl)) rfl ⟨rfl, HB85⟩)
theorem pt1pf1_v (gc gs gx : Nat) (n1 : gc ≠ gx) (n2 : gs ≠ gx) (m : List UInt8) (hn : 48 ≤ m.length) (x : Nat) (e : Int) (hR : CI 68 #[str ((m.take 48))] (.tuple #[nv 6 [x], .int .i64 e])) (w : World) (Ac : SB 63 w gc cvS1) (As : SB 9 w gs [.v (str m)]) (Ax : SB 24 w gx [.n 6 0]) :
    Calls Tryz.prog 168 #[pz gc, pz gs, pz gx] w (fun en_ w' => en_ = .returned (.int .i64 e) ∧ (Chg gx gx w w' ∧ SB 24 w' gx [.n 6 x])) := by
  go_enter Tryz.func168, Tryz.ntmps168
  refine rq0 [3] [.int .i64 0] ?_ ?_
  · exact stpa .nil
  intro w1 hb1
  have A2 := Ac.keep hb1.out
  have A3 := As.keep hb1.out
  have A4 := Ax.keep hb1.out
  have HB6 := (Chg.refl gx gx w).then hb1.out
  refine rqs 10 (gx) 0 (segs [.n 6 x]) [5, 6, 7, 8, 9, 10, 11, 4, 12, 13, 3] [pq gc 2, .func (.func 68) #[] #[], str m, pz gc, .int .i64 48, str ((m.take 48)), .tuple #[nv 6 [x], .int .i64 e], .tuple #[nv 6 [x], .int .i64 e], nv 6 [x], .int .i64 e, .int .i64 e] ?_ ?_
  · refine latv (fun γ w h => ex_field faCv1_2 rfl) ?_
    refine latv (fun γ w h => ex_load1 2 (s := .v (.func (.func 68) #[] #[])) (v := .func (.func 68) #[] #[]) sgT4 rfl (A2.keep h.out) rfl rfl rfl) ?_
    refine latv (fun γ w h => ex_load1 0 (s := .v (str m)) (v := str m) sgT1 rfl (A3.keep h.out) rfl rfl rfl) ?_
    refine latv (fun γ w h => ex_field faCv1_0 rfl) ?_
    refine latv (fun γ w h => ex_load1 0 (s := .i .i64 48) (v := .int .i64 48) sgInt rfl (A2.keep h.out) rfl rfl rfl) ?_
    refine latv (fun γ w h => ex_toL (l := m) 48 rfl rfl hn) ?_
    refine latk Tryz.call68 (fun w h => hR _) ?_
    refine latm ?_
    refine latv (fun γ w h => ex_extract rfl rfl) ?_
    refine lata (fun γ w h => ex_extract (vs := [nv 6 [x], .int .i64 e]) rfl rfl) ?_
    refine lato 0 1 flFp.2 (nv_cells 6 [x]) A4 ?_
    exact lata (fun γ w h => ex_assign _) .nil
  intro w7 w7_ hb7 hs7
  have A10 := A4.keep hb7.out
  have HB12 := HB6.then hb7.out
  have A15 := hs7.here 0 1 (l' := [.n 6 x]) A10 rfl rfl rfl
  have HB16 := HB12.old hs7 (.inl rfl)
  refine seq_lit ?_
  refine sv1 (.int .i64 e) (ex_move _) ?_
  refine sv1 (.int .i64 e) (ex_assign _) ?_
  refine seq_nil ?_
  exact wp_ret (bodyPost_ret (ret1 Tryz.results168 (res_tmp rfl)) rfl ⟨rfl, HB16, A15⟩)
theorem pt1pf2_v (gc gs gx : Nat) (n1 : gc ≠ gx) (n2 : gs ≠ gx) (m : List UInt8) (hn : 48 ≤ m.length) (y : Nat) (e : Int) (hR : CI 68 #[str ((m.drop 48))] (.tuple #[nv 6 [y], .int .i64 e])) (w : World) (Ac : SB 63 w gc cvS1) (As : SB 9 w gs [.v (str m)]) (Ax : SB 24 w gx [.n 6 0]) :
    Calls Tryz.prog 169 #[pz gc, pz gs, pz gx] w (fun en_ w' => en_ = .returned (.int .i64 e) ∧ (Chg gx gx w w' ∧ SB 24 w' gx [.n 6 y])) := by
  go_enter Tryz.func169, Tryz.ntmps169
  refine rq0 [3] [.int .i64 0] ?_ ?_
  · exact stpa .nil
  intro w1 hb1
  have A2 := Ac.keep hb1.out
  have A3 := As.keep hb1.out
  have A4 := Ax.keep hb1.out
  have HB6 := (Chg.refl gx gx w).then hb1.out
  refine rqs 10 (gx) 0 (segs [.n 6 y]) [5, 6, 7, 8, 9, 10, 11, 4, 12, 13, 3] [pq gc 2, .func (.func 68) #[] #[], str m, pz gc, .int .i64 48, str ((m.drop 48)), .tuple #[nv 6 [y], .int .i64 e], .tuple #[nv 6 [y], .int .i64 e], nv 6 [y], .int .i64 e, .int .i64 e] ?_ ?_
  · refine latv (fun γ w h => ex_field faCv1_2 rfl) ?_
    refine latv (fun γ w h => ex_load1 2 (s := .v (.func (.func 68) #[] #[])) (v := .func (.func 68) #[] #[]) sgT4 rfl (A2.keep h.out) rfl rfl rfl) ?_
    refine latv (fun γ w h => ex_load1 0 (s := .v (str m)) (v := str m) sgT1 rfl (A3.keep h.out) rfl rfl rfl) ?_
    refine latv (fun γ w h => ex_field faCv1_0 rfl) ?_
    refine latv (fun γ w h => ex_load1 0 (s := .i .i64 48) (v := .int .i64 48) sgInt rfl (A2.keep h.out) rfl rfl rfl) ?_
    refine latv (fun γ w h => ex_fromL (l := m) 48 rfl rfl hn) ?_
    refine latk Tryz.call68 (fun w h => hR _) ?_
    refine latm ?_
    refine latv (fun γ w h => ex_extract rfl rfl) ?_
    refine lata (fun γ w h => ex_extract (vs := [nv 6 [y], .int .i64 e]) rfl rfl) ?_
    refine lato 0 1 flFp.2 (nv_cells 6 [y]) A4 ?_
    exact lata (fun γ w h => ex_assign _) .nil
  intro w7 w7_ hb7 hs7
  have A10 := A4.keep hb7.out
  have HB12 := HB6.then hb7.out
  have A15 := hs7.here 0 1 (l' := [.n 6 y]) A10 rfl rfl rfl
  have HB16 := HB12.old hs7 (.inl rfl)
  refine seq_lit ?_
  refine sv1 (.int .i64 e) (ex_move _) ?_
  refine sv1 (.int .i64 e) (ex_assign _) ?_
  refine seq_nil ?_
  exact wp_ret (bodyPost_ret (ret1 Tryz.results169 (res_tmp rfl)) rfl ⟨rfl, HB16, A15⟩)
theorem pt1full_b (m : List UInt8) (hn : 48 ≤ m.length) (x : Nat) (y : Nat) (e2 : Int) (hR : CI 68 #[str ((m.take 48))] (.tuple #[nv 6 [x], .int .i64 0])) (hS : CI 68 #[str ((m.drop 48))] (.tuple #[nv 6 [y], .int .i64 e2])) (w : World) :
    Calls Tryz.prog 131 #[sv cvS1, str m] w (Is (.tuple #[sv [.n 6 x, .n 6 y, .b false], .int .i64 e2]) w) := by
  go_enter Tryz.func131, Tryz.ntmps131
  refine rh3 (brf w) (63) 0 cvS1 9 1 [.v (str m)] 26 2 [.n 6 0, .n 6 0, .b false] [2, 3, 4, 5] (fun γ => [pz (γ 0), pz (γ 1), pz (γ 2), .int .i64 0]) ?_ ?_
  · refine stpb 0 (fun γ w h => ex_boxs (l := cvS1) rfl) ?_
    refine stpb 1 (fun γ w h => ex_box1 (s := .v (str m)) rfl rfl) ?_
    refine stpb 2 (fun γ w h => ex_allocs (l := [.n 6 0, .n 6 0, .b false]) zG1) ?_
    exact stpa .nil
  intro γ1 w1 hb1 A2 A3 A4 _ _ le4 hn1 HB5
  refine rh2 HB5 24 0 [.n 6 0] 24 1 [.n 6 0] [6, 7] (fun γ => [pz (γ 0), pz (γ 1)]) ?_ ?_
  · refine stpb 0 (fun γ w h => ex_allocsn (K := 6) (l := [0]) zFp) ?_
    exact stpb 1 (fun γ w h => ex_allocsn (K := 6) (l := [0]) zFp) .nil
  intro γ6 w6 hb6 A10 A11 le10 le11 hn6 HB12
  have A7 := A2.keep hb6.out
  have A8 := A3.keep hb6.out
  have A9 := A4.keep hb6.out
  refine seq_lit ?_
  refine sq_makes (a' := fun g13 => ⟨#[sv cvS1, str m, pz (γ1 0), pz (γ1 1), pz (γ1 2), .int .i64 0, pz (γ6 0), pz (γ6 1), undef, undef, .func (.func 126) #[] #[pz g13], undef, undef, undef, undef, undef, undef, undef, undef, undef, undef, undef, undef], []⟩) (val := fun g13 => .func (.func 126) #[] #[pz g13]) (T := 27) (l := [.i .i64 0]) (fun _ => rfl) rfl (ex_call (vs := []) rfl Tryz.call73 rfl) (ptsteps_v _) ?_
  intro g13 w13 N13 le13 hb13
  have A14 := A7.keep hb13
  have A15 := A8.keep hb13
  have A16 := A9.keep hb13
  have A17 := A10.keep hb13
  have A18 := A11.keep hb13
  have HB19 := below_then HB12 hb13
  refine sv1 (.func (.func 126) #[] #[pz g13]) (ex_assign _) ?_
  refine seq_nil ?_
  refine seq_lit ?_
  refine sv1 (.func (.func 126) #[] #[pz g13]) (ex_move _) ?_
  refine sv1 (.func (.func 168) #[] #[pz (γ1 0), pz (γ1 1), pz (γ6 0)]) (ex_closure (cs := [pz (γ1 0), pz (γ1 1), pz (γ6 0)]) rfl) ?_
  refine sk1 (.int .i64 0) (ex_callc (vs := [.func (.func 168) #[] #[pz (γ1 0), pz (γ1 1), pz (γ6 0)]]) (cs := [pz g13]) rfl Tryz.call126 rfl) (pttake_chg g13 168 [pz (γ1 0), pz (γ1 1), pz (γ6 0)] Tryz.call168 0 ((γ6 0)) (Ne.symm (Nat.ne_of_lt (Nat.lt_of_lt_of_le A10.lt le13))) 24 [.n 6 x] _ [.n 6 0] A17 (fun w_ hb_ => pt1pf1_v ((γ1 0)) ((γ1 1)) ((γ6 0)) (Nat.ne_of_lt (Nat.lt_of_lt_of_le A2.lt le10)) (Nat.ne_of_lt (Nat.lt_of_lt_of_le A3.lt le10)) m hn x 0 hR w_ (A14.keep hb_) (A15.keep hb_) (A17.keep hb_)) N13) ?_
  rintro w23 ⟨hc23, N23_0, N23_1⟩
  have A24 := hc23.kept _ _ _ (Nat.ne_of_lt (Nat.lt_of_lt_of_le A7.lt le13)) (Nat.ne_of_lt (Nat.lt_of_lt_of_le A2.lt le10)) A14
  have A25 := hc23.kept _ _ _ (Nat.ne_of_lt (Nat.lt_of_lt_of_le A8.lt le13)) (Nat.ne_of_lt (Nat.lt_of_lt_of_le A3.lt le10)) A15
  have A26 := hc23.kept _ _ _ (Nat.ne_of_lt (Nat.lt_of_lt_of_le A9.lt le13)) (Nat.ne_of_lt (Nat.lt_of_lt_of_le A4.lt le10)) A16
  have A27 := hc23.kept _ _ _ (Nat.ne_of_lt (Nat.lt_of_lt_of_le A11.lt le13)) (Ne.symm (hn6 0 1 (by decide) (by decide) (by decide))) A18
  have HB28 := hc23.below HB19 (Nat.le_trans HB12.size le13) (Nat.le_trans HB5.size le10) rfl
  refine seq_nil ?_
  refine seq_lit ?_
  refine sv1 (.func (.func 126) #[] #[pz g13]) (ex_move _) ?_
  refine sv1 (.func (.func 169) #[] #[pz (γ1 0), pz (γ1 1), pz (γ6 1)]) (ex_closure (cs := [pz (γ1 0), pz (γ1 1), pz (γ6 1)]) rfl) ?_
  refine sk1 (.int .i64 e2) (ex_callc (vs := [.func (.func 169) #[] #[pz (γ1 0), pz (γ1 1), pz (γ6 1)]]) (cs := [pz g13]) rfl Tryz.call126 rfl) (pttake_chg g13 169 [pz (γ1 0), pz (γ1 1), pz (γ6 1)] Tryz.call169 e2 ((γ6 1)) (Ne.symm (Nat.ne_of_lt (Nat.lt_of_lt_of_le A11.lt le13))) 24 [.n 6 y] _ [.n 6 0] A27 (fun w_ hb_ => pt1pf2_v ((γ1 0)) ((γ1 1)) ((γ6 1)) (Nat.ne_of_lt (Nat.lt_of_lt_of_le A2.lt le11)) (Nat.ne_of_lt (Nat.lt_of_lt_of_le A3.lt le11)) m hn y e2 hS w_ (A24.keep hb_) (A25.keep hb_) (A27.keep hb_)) N23_0) ?_
  rintro w31 ⟨hc31, N31_0, N31_1⟩
  have A32 := hc31.kept _ _ _ (Nat.ne_of_lt (Nat.lt_of_lt_of_le A7.lt le13)) (Nat.ne_of_lt (Nat.lt_of_lt_of_le A2.lt le11)) A24
  have A34 := hc31.kept _ _ _ (Nat.ne_of_lt (Nat.lt_of_lt_of_le A9.lt le13)) (Nat.ne_of_lt (Nat.lt_of_lt_of_le A4.lt le11)) A26
  have A35 := hc31.kept _ _ _ (Nat.ne_of_lt (Nat.lt_of_lt_of_le A10.lt le13)) (hn6 0 1 (by decide) (by decide) (by decide)) N23_1
  have HB36 := hc31.below HB28 (Nat.le_trans HB12.size le13) (Nat.le_trans HB5.size le11) rfl
  refine sv1 (.int .i64 e2) (ex_assign _) ?_
  refine seq_nil ?_
  refine seq_lit ?_
  refine sv1 (pq (γ1 0) 7) (ex_field faCv1_7 rfl) ?_
  refine sv1 (.func (.func 70) #[] #[]) (ex_load1 7 (s := .v (.func (.func 70) #[] #[])) (v := .func (.func 70) #[] #[]) sgT9 rfl A32 rfl rfl rfl) ?_
  refine sv1 (nv 6 [x]) (ex_loadsn (K := 6) 0 1 (m := [x]) flFp rfl rfl A35 rfl rfl) ?_
  refine sv1 (nv 6 [y]) (ex_loadsn (K := 6) 0 1 (m := [y]) flFp rfl rfl N31_1 rfl rfl) ?_
  refine sck HB36 Tryz.call70 (pt1made_v x y _) ?_
  intro w42 hb42 HB49
  have A45 := A34.keep hb42
  refine sv1 (.int .i64 e2) (ex_move _) ?_
  refine ss1 (ex_stores 0 3 (l := [.n 6 0, .n 6 0, .b false]) (m := [.n 6 x, .n 6 y, .b false]) flG1.2 rfl rfl rfl rfl A45 rfl rfl) ?_
  intro w51 hs51
  have A54 := hs51.here 0 3 (l' := [.n 6 x, .n 6 y, .b false]) A45 rfl rfl rfl
  have HB58 := hs51.below HB49 (Nat.le_trans (Nat.le_refl _) le4)
  refine sv1 (.int .i64 e2) (ex_assign _) ?_
  refine seq_nil ?_
  exact wp_ret (bodyPost_ret (ret2 Tryz.results131 (res_sv rfl A54 flG1 rfl) (res_tmp rfl)) rfl ⟨rfl, HB58⟩)
theorem pt1parse_inf (l : List UInt8) (hl : l ≠ []) (h6 : f6 (kOf l) = true) (e : Int) (hZ : CI 128 #[str l] (.int .i64 e)) (w : World) :
    Calls Tryz.prog 79 #[sv cvS1, str l] w (Is (.tuple #[sv [.n 6 0, .n 6 0, .b true], .int .i64 e]) w) := by
  go_enter Tryz.func79, Tryz.ntmps79
  refine rh2 (brf w) (63) 0 cvS1 26 1 [.n 6 0, .n 6 0, .b false] [2, 4, 5] (fun γ => [pz (γ 0), pz (γ 1), .int .i64 0]) ?_ ?_
  · refine stpb 0 (fun γ w h => ex_boxs (l := cvS1) rfl) ?_
    refine stpb 1 (fun γ w h => ex_allocs (l := [.n 6 0, .n 6 0, .b false]) zG1) ?_
    exact stpa .nil
  intro γ1 w1 hb1 A2 A3 _ le3 hn1 HB4
  refine wp_seq ?_
  refine rh0 HB4 [6, 7] [str l, .bool true] ?_ ?_
  · refine stpm ?_
    exact stpk Tryz.call127 (fun w h => pthas6_q l hl true h6 _) .nil
  intro w5 hb5 HB8
  have A6 := A2.keep hb5.out
  have A7 := A3.keep hb5.out
  refine wp_cond_true rfl ?_
  refine rhs HB8 le3 5 0 [.n 6 0, .n 6 0, .b true] [8, 9, 10, 11, 12, 5] [pq (γ1 0) 6, .func (.func 32) #[] #[], sv [.n 6 0, .n 6 0, .b true], str l, .int .i64 e, .int .i64 e] ?_ ?_
  · refine latv (fun γ w h => ex_field faCv1_6 rfl) ?_
    refine latv (fun γ w h => ex_load1 6 (s := .v (.func (.func 32) #[] #[])) (v := .func (.func 32) #[] #[]) sgT8 rfl (A6.keep h.out) rfl rfl rfl) ?_
    refine latk Tryz.call32 (fun w h => oneZero_v _) ?_
    refine lata (fun γ w h => ex_move _) ?_
    refine latk Tryz.call128 (fun w h => hZ _) ?_
    refine latq 0 3 flG1.2 A7 ?_
    exact lata (fun γ w h => ex_assign _) .nil
  intro w9 w9_ hb9 hs9 HB15
  have A11 := A7.keep hb9.out
  have A14 := hs9.here 0 3 (l' := [.n 6 0, .n 6 0, .b true]) A11 rfl rfl rfl
  exact wp_ret (th_ret (bodyPost_ret (ret2 Tryz.results79 (res_sv rfl A14 flG1 rfl) (res_tmp rfl)) rfl ⟨rfl, HB15⟩))
theorem pt1parse_short (l : List UInt8) (hl : l ≠ []) (hn : l.length ≤ 500) (h6 : f6 (kOf l) = false) (h7 : f7 (kOf l) = true) (u : Bool) (h5 : f5 (kOf l) = u) (x : Nat) (y : Nat) (i : Bool) (e : Int) (hP : CI 129 #[sv cvS1, str ((low l)), .bool u] (.tuple #[sv [.n 6 x, .n 6 y, .b i], .int .i64 e])) (w : World) :
    Calls Tryz.prog 79 #[sv cvS1, str l] w (Is (.tuple #[sv [.n 6 x, .n 6 y, .b i], .int .i64 e]) w) := by
  go_enter Tryz.func79, Tryz.ntmps79
  refine rh2 (brf w) (63) 0 cvS1 26 1 [.n 6 0, .n 6 0, .b false] [2, 4, 5] (fun γ => [pz (γ 0), pz (γ 1), .int .i64 0]) ?_ ?_
  · refine stpb 0 (fun γ w h => ex_boxs (l := cvS1) rfl) ?_
    refine stpb 1 (fun γ w h => ex_allocs (l := [.n 6 0, .n 6 0, .b false]) zG1) ?_
    exact stpa .nil
  intro γ1 w1 hb1 A2 A3 _ le3 hn1 HB4
  refine wp_seq ?_
  refine rh0 HB4 [6, 7] [str l, .bool false] ?_ ?_
  · refine stpm ?_
    exact stpk Tryz.call127 (fun w h => pthas6_q l hl false h6 _) .nil
  intro w5 hb5 HB8
  have A6 := A2.keep hb5.out
  have A7 := A3.keep hb5.out
  refine wp_cond_false rfl ?_
  refine wp_skip ?_
  refine th_r ?_
  refine wp_seq ?_
  refine rh0 HB8 [13, 14] [str l, .bool true] ?_ ?_
  · refine stpm ?_
    exact stpk Tryz.call127 (fun w h => pthas7_q l hl true h7 _) .nil
  intro w9 hb9 HB12
  have A10 := A6.keep hb9.out
  have A11 := A7.keep hb9.out
  refine wp_cond_true rfl ?_
  refine rhs HB12 le3 8 0 [.n 6 x, .n 6 y, .b i] [15, 16, 17, 18, 19, 20, 21, 22, 5] [sv cvS1, str l, str ((low l)), str l, .bool u, .tuple #[sv [.n 6 x, .n 6 y, .b i], .int .i64 e], sv [.n 6 x, .n 6 y, .b i], .int .i64 e, .int .i64 e] ?_ ?_
  · refine latv (fun γ w h => ex_loads 0 11 (m := cvS1) flCv1 rfl rfl (A10.keep h.out) rfl rfl) ?_
    refine latm ?_
    refine latk Tryz.call130 (fun w h => ptbare_q l hl hn _) ?_
    refine latm ?_
    refine latk Tryz.call127 (fun w h => pthas5_q l hl u h5 _) ?_
    refine latk Tryz.call129 (fun w h => hP _) ?_
    refine latv (fun γ w h => ex_extract rfl rfl) ?_
    refine latv (fun γ w h => ex_extract rfl rfl) ?_
    refine latq 0 3 flG1.2 A11 ?_
    exact lata (fun γ w h => ex_assign _) .nil
  intro w13 w13_ hb13 hs13 HB19
  have A15 := A11.keep hb13.out
  have A18 := hs13.here 0 3 (l' := [.n 6 x, .n 6 y, .b i]) A15 rfl rfl rfl
  exact wp_ret (th_ret (bodyPost_ret (ret2 Tryz.results79 (res_sv rfl A18 flG1 rfl) (res_tmp rfl)) rfl ⟨rfl, HB19⟩))
theorem pt1parse_full (l : List UInt8) (hl : l ≠ []) (h6 : f6 (kOf l) = false) (h7 : f7 (kOf l) = false) (x : Nat) (y : Nat) (i : Bool) (e : Int) (hP : CI 131 #[sv cvS1, str l] (.tuple #[sv [.n 6 x, .n 6 y, .b i], .int .i64 e])) (w : World) :
    Calls Tryz.prog 79 #[sv cvS1, str l] w (Is (.tuple #[sv [.n 6 x, .n 6 y, .b i], .int .i64 e]) w) := by
  go_enter Tryz.func79, Tryz.ntmps79
  refine rh2 (brf w) (63) 0 cvS1 26 1 [.n 6 0, .n 6 0, .b false] [2, 4, 5] (fun γ => [pz (γ 0), pz (γ 1), .int .i64 0]) ?_ ?_
  · refine stpb 0 (fun γ w h => ex_boxs (l := cvS1) rfl) ?_
    refine stpb 1 (fun γ w h => ex_allocs (l := [.n 6 0, .n 6 0, .b false]) zG1) ?_
    exact stpa .nil
  intro γ1 w1 hb1 A2 A3 _ le3 hn1 HB4
  refine wp_seq ?_
  refine rh0 HB4 [6, 7] [str l, .bool false] ?_ ?_
  · refine stpm ?_
    exact stpk Tryz.call127 (fun w h => pthas6_q l hl false h6 _) .nil
  intro w5 hb5 HB8
  have A6 := A2.keep hb5.out
  have A7 := A3.keep hb5.out
  refine wp_cond_false rfl ?_
  refine wp_skip ?_
  refine th_r ?_
  refine wp_seq ?_
  refine rh0 HB8 [13, 14] [str l, .bool false] ?_ ?_
  · refine stpm ?_
    exact stpk Tryz.call127 (fun w h => pthas7_q l hl false h7 _) .nil
  intro w9 hb9 HB12
  have A10 := A6.keep hb9.out
  have A11 := A7.keep hb9.out
  refine wp_cond_false rfl ?_
  refine wp_skip ?_
  refine th_r ?_
  refine rhs HB12 le3 5 0 [.n 6 x, .n 6 y, .b i] [23, 24, 25, 26, 27, 5] [sv cvS1, str l, .tuple #[sv [.n 6 x, .n 6 y, .b i], .int .i64 e], sv [.n 6 x, .n 6 y, .b i], .int .i64 e, .int .i64 e] ?_ ?_
  · refine latv (fun γ w h => ex_loads 0 11 (m := cvS1) flCv1 rfl rfl (A10.keep h.out) rfl rfl) ?_
    refine latm ?_
    refine latk Tryz.call131 (fun w h => hP _) ?_
    refine latv (fun γ w h => ex_extract rfl rfl) ?_
    refine latv (fun γ w h => ex_extract rfl rfl) ?_
    refine latq 0 3 flG1.2 A11 ?_
    exact lata (fun γ w h => ex_assign _) .nil
  intro w13 w13_ hb13 hs13 HB19
  have A15 := A11.keep hb13.out
  have A18 := hs13.here 0 3 (l' := [.n 6 x, .n 6 y, .b i]) A15 rfl rfl rfl
  exact wp_ret (bodyPost_ret (ret2 Tryz.results79 (res_sv rfl A18 flG1 rfl) (res_tmp rfl)) rfl ⟨rfl, HB19⟩)
theorem pt1len_s (l : List UInt8) (hl : l.length = 48) (w : World) :
    Calls Tryz.prog 75 #[sv cvS1, str l] w (Is (.int .i64 0) w) := by
  go_enter Tryz.func75, Tryz.ntmps75
  refine rh1 (brf w) (63) 0 cvS1 [2, 4] (fun γ => [pz (γ 0), .int .i64 0]) ?_ ?_
  · refine stpb 0 (fun γ w h => ex_boxs (l := cvS1) rfl) ?_
    exact stpa .nil
  intro γ1 w1 hb1 A2 _ HB3
  refine wp_seq ?_
  refine rh0 HB3 [5, 6, 7, 8, 9, 10, 11, 12, 13, 14, 15, 16, 17] [str l, .int .i64 48, pz (γ1 0), .int .i64 48, .bool false, .bool false, undef, undef, undef, undef, undef, undef, .bool false] ?_ ?_
  · refine stpm ?_
    refine stpx (fun _ _ => ex_lenL (l := l) (n := 48) rfl hl rfl) ?_
    refine stpx (fun _ _ => ex_field faCv1_0 rfl) ?_
    refine stpv (fun γ w h => ex_load1 0 (s := .i .i64 48) (v := .int .i64 48) sgInt rfl (A2.keep h.out) rfl rfl rfl) ?_
    refine stpx (fun _ _ => ex_neqi rfl rfl _ rfl) ?_
    refine stpm ?_
    refine stps ?_
    refine stps ?_
    refine stps ?_
    refine stps ?_
    refine stps ?_
    refine stps ?_
    exact stpx (fun _ _ => ex_pick (r := false) rfl) .nil
  intro w4 hb4 HB6
  refine wp_cond_false rfl ?_
  refine wp_skip ?_
  refine th_r ?_
  refine rh0 HB6 [4] [.int .i64 0] ?_ ?_
  · exact stpa .nil
  intro w7 hb7 HB9
  exact wp_ret (bodyPost_ret (ret1 Tryz.results75 (res_tmp rfl)) rfl ⟨rfl, HB9⟩)
theorem pt1len_f (l : List UInt8) (hl : l.length = 96) (w : World) :
    Calls Tryz.prog 75 #[sv cvS1, str l] w (Is (.int .i64 0) w) := by
  go_enter Tryz.func75, Tryz.ntmps75
  refine rh1 (brf w) (63) 0 cvS1 [2, 4] (fun γ => [pz (γ 0), .int .i64 0]) ?_ ?_
  · refine stpb 0 (fun γ w h => ex_boxs (l := cvS1) rfl) ?_
    exact stpa .nil
  intro γ1 w1 hb1 A2 _ HB3
  refine wp_seq ?_
  refine rh0 HB3 [5, 6, 7, 8, 9, 10, 11, 12, 13, 14, 15, 16, 17] [str l, .int .i64 96, pz (γ1 0), .int .i64 48, .bool true, .bool true, str l, .int .i64 96, pz (γ1 0), .int .i64 48, .int .i64 96, .bool false, .bool false] ?_ ?_
  · refine stpm ?_
    refine stpx (fun _ _ => ex_lenL (l := l) (n := 96) rfl hl rfl) ?_
    refine stpx (fun _ _ => ex_field faCv1_0 rfl) ?_
    refine stpv (fun γ w h => ex_load1 0 (s := .i .i64 48) (v := .int .i64 48) sgInt rfl (A2.keep h.out) rfl rfl rfl) ?_
    refine stpx (fun _ _ => ex_neqi rfl rfl _ rfl) ?_
    refine stpm ?_
    refine stpm ?_
    refine stpx (fun _ _ => ex_lenL (l := l) (n := 96) rfl hl rfl) ?_
    refine stpx (fun _ _ => ex_field faCv1_0 rfl) ?_
    refine stpv (fun γ w h => ex_load1 0 (s := .i .i64 48) (v := .int .i64 48) sgInt rfl (A2.keep h.out) rfl rfl rfl) ?_
    refine stpx (fun _ _ => ex_imul rfl rfl 96 rfl) ?_
    refine stpx (fun _ _ => ex_neqi rfl rfl _ rfl) ?_
    exact stpx (fun _ _ => ex_pick (r := true) rfl) .nil
  intro w4 hb4 HB6
  refine wp_cond_false rfl ?_
  refine wp_skip ?_
  refine th_r ?_
  refine rh0 HB6 [4] [.int .i64 0] ?_ ?_
  · exact stpa .nil
  intro w7 hb7 HB9
  exact wp_ret (bodyPost_ret (ret1 Tryz.results75 (res_tmp rfl)) rfl ⟨rfl, HB9⟩)
end
end
end
end Go.Proofs.YtplbcdafelejbaaGreatDoor

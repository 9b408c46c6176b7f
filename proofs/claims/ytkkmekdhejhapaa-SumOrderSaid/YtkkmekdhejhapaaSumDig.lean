/- What is proved here: package sum: the digits of a place are read. -/
import Derived.Test.YtkkmekdhejhapaaSumBuck
namespace Go.Proofs.Ytkkmekdhejhapaa
open Go.RowKit Cv
theorem or_bit {a b c : Nat} (ha : a < 2 ^ b) (hb : b ≤ 9) (hc : c < 2) : bits .or .i64 (a : Int) ((c * 2 ^ b : Nat) : Int) = ((a + c * 2 ^ b : Nat) : Int) := by
  have hp : 2 ^ b ≤ 2 ^ 9 := Nat.pow_le_pow_right (by decide) hb
  have hcb : c * 2 ^ b ≤ 1 * 2 ^ b := Nat.mul_le_mul_right _ (by omega)
  have e : a ||| c * 2 ^ b = a + c * 2 ^ b := by rw [Nat.add_comm, Nat.mul_comm, Nat.two_pow_add_eq_or_of_lt ha, Nat.or_comm]
  have h1 : a < 2 ^ 64 := by omega
  have h2 : c * 2 ^ b < 2 ^ 64 := by omega
  unfold bits
  show IntKind.i64.wrap (((BitVec.ofInt 64 (a : Int)) ||| (BitVec.ofInt 64 ((c * 2 ^ b : Nat) : Int))).toNat : Int) = _
  rw [BitVec.ofInt_natCast, BitVec.ofInt_natCast, BitVec.toNat_or, BitVec.toNat_ofNat, BitVec.toNat_ofNat, Nat.mod_eq_of_lt h1, Nat.mod_eq_of_lt h2, e, wrapI64 (by omega) (by omega)]
theorem shl_bit {b c : Nat} (hb : b ≤ 9) (hc : c < 2) : IntKind.i64.wrap ((c : Int) * 2 ^ b) = ((c * 2 ^ b : Nat) : Int) := by
  have hp : 2 ^ b ≤ 2 ^ 9 := Nat.pow_le_pow_right (by decide) hb
  have hcb : c * 2 ^ b ≤ 1 * 2 ^ b := Nat.mul_le_mul_right _ (by omega)
  have e : (c : Int) * 2 ^ b = ((c * 2 ^ b : Nat) : Int) := by rw [Int.natCast_mul, Int.natCast_pow]; rfl
  rw [e]
  generalize c * 2 ^ b = q at *
  exact wrapI64 (by omega) (by omega)
def rdF (A : Nat → Nat) (low wd q b : Nat) : Nat → Nat := fun i => if i < q then A i / 2 ^ low % 2 ^ wd else if i = q then A i / 2 ^ low % 2 ^ b else 0
theorem rdF_start (A : Nat → Nat) (low wd : Nat) : rdF A low wd 0 0 = fun _ => 0 := funext fun i => by
  unfold rdF
  rw [if_neg (Nat.not_lt_zero i), Nat.pow_zero, Nat.mod_one]
  split <;> rfl
theorem rdF_next (A : Nat → Nat) (low wd q : Nat) : rdF A low wd q wd = rdF A low wd (q + 1) 0 := funext fun i => by
  unfold rdF
  rw [Nat.pow_zero, Nat.mod_one]
  by_cases h : i < q
  · rw [if_pos h, if_pos (by omega)]
  · rw [if_neg h]
    by_cases h2 : i = q
    · rw [if_pos h2, if_pos (by omega)]
    · rw [if_neg h2, if_neg (by omega)]
      split <;> rfl
theorem rdF_other (A : Nat → Nat) (low wd q b j : Nat) (h : j ≠ q) : rdF A low wd q b j = rdF A low wd q (b + 1) j := by
  unfold rdF
  rw [if_neg h, if_neg h]
theorem rdF_end (A : Nat → Nat) (low wd m : Nat) : ints (rdF A low wd m 0) m = ints (fun i => A i / 2 ^ low % 2 ^ wd) m := cat_ext fun i h => by
  show [Seg.i .i64 ((rdF A low wd m 0 i : Nat) : Int)] = _
  unfold rdF
  rw [if_pos h]
theorem rd_or (A : Nat → Nat) (low wd q b : Nat) (hb : b ≤ 9) : bits .or .i64 ((rdF A low wd q b q : Nat) : Int) ((A q / 2 ^ (low + b) % 2 * 2 ^ b : Nat) : Int) = ((rdF A low wd q (b + 1) q : Nat) : Int) := by
  have e : ∀ b, rdF A low wd q b q = A q / 2 ^ low % 2 ^ b := fun b => by
    unfold rdF
    rw [if_neg (Nat.lt_irrefl q), if_pos rfl]
  rw [e, e, or_bit (Nat.mod_lt _ (Nat.two_pow_pos b)) hb (Nat.mod_lt _ (by decide)), Nat.pow_add, ← Nat.div_div_eq_div_mul]
  congr 1
  generalize A q / 2 ^ low = x
  rw [Nat.pow_succ, Nat.mod_mul, Nat.mul_comm]
theorem ex_clearI {ρ : Operand → Value} {w : World} {x : Operand} {ty0 : TypeId} {pos : String} {after : Array Edge} {gd : Option (Nat × Bool)} {t : TypeId} {g m c : Nat} {D : Nat → Nat} (h : SB t w g (ints D m)) (hm : 0 < m) (hx : ρ x = .slice (some ⟨g, 0, none⟩) m c) :
    (execOp ρ ⟨none, .call ⟨.builtin .clear, #[x], #[89]⟩, ty0, pos, after, gd⟩).run Try.prog w = .ok (.value (.tuple #[])) (w.setCells g 0 (segs (ints (fun _ => 0) m))) := by
  have hr := run_clearI (c := c) (ty := ty0) h hm
  simp [execOp, hx, go_sem, hr]
theorem sq_clear {ops : Array Oper} {rest : List Oper} {l : List Value} {w : World} {Q : Exit → Act → World → Prop} {x : Operand} {ty0 : TypeId} {pos : String} {after : Array Edge} {gd : Option (Nat × Bool)} {t : TypeId} {g m c : Nat} {D : Nat → Nat} (h : SB t w g (ints D m)) (hm : 0 < m)
    (hn : ∀ w', St w w' g 0 (segs (ints (fun _ => 0) m)) → SB t w' g (ints (fun _ => 0) m) → wpList Try.prog ops Q rest (ac l) w')
    (hx : (ac l).eval x = .slice (some ⟨g, 0, none⟩) m c := by rfl) (hw : Region.wanted ⟨none, .call ⟨.builtin .clear, #[x], #[89]⟩, ty0, pos, after, gd⟩ (yielded ops (ac l).tmps) = true := by rfl) :
    wpList Try.prog ops Q (⟨none, .call ⟨.builtin .clear, #[x], #[89]⟩, ty0, pos, after, gd⟩ :: rest) (ac l) w := by
  have he : (execOp (ac l).eval ⟨none, .call ⟨.builtin .clear, #[x], #[89]⟩, ty0, pos, after, gd⟩).run Try.prog w = .ok (.value (.tuple #[])) (w.setCells g 0 (segs (ints (fun _ => 0) m))) := ex_clearI h hm hx
  refine wpList_step fun K hK => ?_
  rw [if_pos hw]
  unfold Oper.wp
  rw [he]
  refine hK _ _ ?_
  have hb : SB t (w.setCells g 0 (segs (ints (fun _ => 0) m))) g (ints (fun _ => 0) m) := by
    have h3 := Blk.setCells (segs (ints (fun _ => 0) m)) 0 (by rw [ints_len, ints_len]; omega) h
    rw [List.take_zero, List.nil_append, Nat.zero_add, List.drop_eq_nil_of_le (by rw [ints_len, ints_len]; omega), List.append_nil] at h3
    exact h3
  exact hn _ rfl hb
set_option maxRecDepth 20000 in
set_option maxHeartbeats 4000000 in
theorem sudig_v (m : Nat) (hm : m ≤ 4096) (hm0 : 0 < m) (A : Nat → Nat) (HA : ∀ i, i < m → A i < frB) (ak : Option Addr) (ck gd low wd : Nat) (h9 : wd ≤ 9) (hlow : low ≤ 1000) (D0 : Nat → Nat) (w : World) (AD : SB 3 w gd (ints D0 m)) (HK : ∀ w', Chg gd gd w w' → Row w' ak 4 m (fun i => [.n 4 (A i)])) :
    Calls Try.prog 61 #[.slice (some ⟨gd, 0, none⟩) m m, .slice ak m ck, .int .i64 ((low : Nat) : Int), .int .i64 ((wd : Nat) : Int)] w (fun e w' => e = .returned (.tuple #[]) ∧ (Chg gd gd w w' ∧ SB 3 w' gd (ints (fun i => A i / 2 ^ low % 2 ^ wd) m))) := by
  go_enter Try.func61, Try.ntmps61
  skip
  · refine seq_lit ?_
    refine sv1 (.slice (some ⟨gd, 0, none⟩) m m) (ex_move _) ?_
    refine sq_clear (D := D0) AD hm0 ?_
    intro w2 hs2 N2
    have HB3 := (Chg.refl gd gd w).old hs2 (.inl rfl)
    refine seq_nil ?_
    skip
    · refine wp_seq (region_0 [12, 13, 14] [.slice ak m ck, .int .i64 ((m : Nat) : Int), .int .i64 0] ?_ ?_)
      · refine stpx (fun _ _ => ex_move _) ?_
        refine stpx (fun _ _ => ex_lenR slR1 (m := m) rfl) ?_
        refine stpx (fun _ _ => ex_move _) ?_
        exact GSteps.nil
      intro w4 hb4
      refine th_r ?_
      have A5 := N2.keep hb4.out
      have HB6 := HB3.then hb4.out
      refine wp_block ?_
      refine wp_loop_by (m) (fun q_ a_ v_ => ∃ j8 j9 j10 j15 j16 j17 j18 j19 j20 j21 j22 j23 j24 j25 j26 j27 j28 j29 j30 j31 j32 j33 j34 j35 j36 j37 : Value, a_ = ⟨List.toArray ((.slice (some ⟨gd, 0, none⟩) m m) :: (.slice ak m ck) :: (.int .i64 ((low : Nat) : Int)) :: (.int .i64 ((wd : Nat) : Int)) :: undef :: undef :: undef :: undef :: j8 :: j9 :: j10 :: (.slice (some ⟨gd, 0, none⟩) m m) :: (.slice ak m ck) :: (.int .i64 ((m : Nat) : Int)) :: (.int .i64 ((q_ : Nat) : Int)) :: j15 :: j16 :: j17 :: j18 :: j19 :: j20 :: j21 :: j22 :: j23 :: j24 :: j25 :: j26 :: j27 :: j28 :: j29 :: j30 :: j31 :: j32 :: j33 :: j34 :: j35 :: j36 :: j37 :: []), []⟩ ∧ SB 3 v_ (gd) (ints (rdF A low wd q_ 0) m) ∧ Chg (gd) (gd) w v_) ⟨_, _, _, _, _, _, _, _, _, _, _, _, _, _, _, _, _, _, _, _, _, _, _, _, _, _, rfl, (by rw [rdF_start]; exact A5), HB6⟩ ?_ ?_
      · intro k7 hk7
        rintro _ w7 ⟨i7_8, i7_9, i7_10, i7_15, i7_16, i7_17, i7_18, i7_19, i7_20, i7_21, i7_22, i7_23, i7_24, i7_25, i7_26, i7_27, i7_28, i7_29, i7_30, i7_31, i7_32, i7_33, i7_34, i7_35, i7_36, i7_37, rfl, A7_0, HB7⟩ K7 hK7
        have hq := hk7
        refine wp_seq (region_0 [15] [.bool true] ?_ ?_)
        · refine stpx (fun _ _ => ex_ilss rfl rfl true (by rw [eq_comm, decide_eq_true_eq]; omega)) ?_
          exact GSteps.nil
        intro w8 hb8
        refine th_r ?_
        have A9 := A7_0.keep hb8.out
        have HB10 := HB7.then hb8.out
        refine wp_seq ?_
        refine wp_cond_true rfl ?_
        refine wp_skip ?_
        refine th_r ?_
        refine wp_seq ?_
        refine wp_block ?_
        obtain ⟨g11, o11, ha11, lg11, hr11⟩ := HK _ HB10 k7 hq
        skip
        · refine wp_seq (region_c 1 (fun _ => 38) (fun _ => 3) (fun _ => 5) (fun _ => segs [.n 4 0]) (fun _ => segs [.n 4 ((A k7))]) [16, 17, 18, 9, 8] (fun γ => [.int .i64 ((k7 : Nat) : Int), .pointer (some ⟨g11, o11 + 4 * k7, none⟩), nv 4 [(A k7)], .pointer (some ⟨γ 0, 0, none⟩), .int .i64 ((k7 : Nat) : Int)]) ?_ ?_)
          · refine stpx (fun _ _ => ex_move _) ?_
            refine stpx (fun _ _ => ex_idxR slR1 (a := ak) (m := m) (c := ck) (i := k7) rfl ha11 rfl hq) ?_
            refine stpv (fun γ w h => ex_loadRn (K := 4) (v := (A k7)) flFr rfl (range_keep lg11 h.out hr11)) ?_
            refine GSteps.cons (gm_new 0 rfl (fun _ => rfl) (fun _ _ => rfl) (fun γ w => ex_allocsn (K := 4) (l := [0]) zFr) rfl (by kernel_rfl)) ?_
            refine stpx (fun _ _ => ex_assign _) ?_
            refine GSteps.cons (gm_store 0 rfl rfl (fun _ => rfl) (len_segs (l := [.n 4 ((A k7))]) (l' := [.n 4 0]) rfl) (fun γ w h => ex_stores 0 1 (l := [.n 4 0]) (m := [.n 4 ((A k7))]) flFr.2 rfl rfl rfl (nv_cells 4 [(A k7)]) h rfl rfl) rfl rfl (by kernel_rfl)) ?_
            exact GSteps.nil
          intro γ12 w12 hb12 hB12 _
          refine th_r ?_
          have A13 := A9.keep hb12.out
          have A14 : SB 38 w12 (γ12 0) [.n 4 ((A k7))] := (hB12 0 (by decide)).2
          have le14 := (hB12 0 (by decide)).1
          have HB15 := HB10.then hb12.out
          refine wp_seq (region_0 [19, 20] [.int .i64 ((wd : Nat) : Int), .int .i64 0] ?_ ?_)
          · refine stpx (fun _ _ => ex_move _) ?_
            refine stpx (fun _ _ => ex_move _) ?_
            exact GSteps.nil
          intro w16 hb16
          refine th_r ?_
          have A17 := A13.keep hb16.out
          have A18 := A14.keep hb16.out
          have HB19 := HB15.then hb16.out
          refine wp_block ?_
          refine wp_loop_by (wd) (fun q_ a_ v_ => ∃ j10 j21 j22 j23 j24 j25 j26 j27 j28 j29 j30 j31 j32 j33 j34 j35 j36 : Value, a_ = ⟨List.toArray ((.slice (some ⟨gd, 0, none⟩) m m) :: (.slice ak m ck) :: (.int .i64 ((low : Nat) : Int)) :: (.int .i64 ((wd : Nat) : Int)) :: undef :: undef :: undef :: undef :: (.int .i64 ((k7 : Nat) : Int)) :: (.pointer (some ⟨(γ12 0), 0, none⟩)) :: j10 :: (.slice (some ⟨gd, 0, none⟩) m m) :: (.slice ak m ck) :: (.int .i64 ((m : Nat) : Int)) :: (.int .i64 ((k7 : Nat) : Int)) :: (.bool true) :: (.int .i64 ((k7 : Nat) : Int)) :: (.pointer (some ⟨g11, o11 + 4 * k7, none⟩)) :: (nv 4 [(A k7)]) :: (.int .i64 ((wd : Nat) : Int)) :: (.int .i64 ((q_ : Nat) : Int)) :: j21 :: j22 :: j23 :: j24 :: j25 :: j26 :: j27 :: j28 :: j29 :: j30 :: j31 :: j32 :: j33 :: j34 :: j35 :: j36 :: i7_37 :: []), []⟩ ∧ SB 3 v_ (gd) (ints (rdF A low wd k7 q_) m) ∧ SB 38 v_ (γ12 0) [.n 4 ((A k7))] ∧ Chg (gd) (gd) w v_) ⟨_, _, _, _, _, _, _, _, _, _, _, _, _, _, _, _, _, rfl, A17, A18, HB19⟩ ?_ ?_
          · intro k20 hk20
            rintro _ w20 ⟨i20_10, i20_21, i20_22, i20_23, i20_24, i20_25, i20_26, i20_27, i20_28, i20_29, i20_30, i20_31, i20_32, i20_33, i20_34, i20_35, i20_36, rfl, A20_0, A20_1, HB20⟩ K20 hK20
            have hb := hk20
            refine wp_seq (region_0 [21] [.bool true] ?_ ?_)
            · refine stpx (fun _ _ => ex_ilss rfl rfl true (by rw [eq_comm, decide_eq_true_eq]; omega)) ?_
              exact GSteps.nil
            intro w21 hb21
            refine th_r ?_
            have A22 := A20_0.keep hb21.out
            have A23 := A20_1.keep hb21.out
            have HB24 := HB20.then hb21.out
            refine wp_seq ?_
            refine wp_cond_true rfl ?_
            refine wp_skip ?_
            refine th_r ?_
            refine wp_seq ?_
            refine wp_block ?_
            refine wp_seq (region_0 [22, 10] [.int .i64 ((k20 : Nat) : Int), .int .i64 ((k20 : Nat) : Int)] ?_ ?_)
            · refine stpx (fun _ _ => ex_move _) ?_
              refine stpx (fun _ _ => ex_assign _) ?_
              exact GSteps.nil
            intro w25 hb25
            refine th_r ?_
            have A26 := A22.keep hb25.out
            have A27 := A23.keep hb25.out
            have HB28 := HB24.then hb25.out
            refine region_s 13 (gd) k7 (segs [.i .i64 (((rdF A low wd k7 (k20 + 1) k7 : Nat) : Int))]) [23, 24, 25, 26, 27, 28, 29, 30, 31, 32, 33, 34, 35] [.slice (some ⟨gd, 0, none⟩) m m, .int .i64 ((k7 : Nat) : Int), .pointer (some ⟨gd, k7, none⟩), .int .i64 ((rdF A low wd k7 k20 k7 : Nat) : Int), nv 4 [(A k7)], .int .i64 ((low : Nat) : Int), .int .i64 ((k20 : Nat) : Int), .int .i64 ((low + k20 : Nat) : Int), .int .i64 ((A k7 / 2 ^ (low + k20) % 2 : Nat) : Int), .int .i64 ((k20 : Nat) : Int), .int .i64 ((A k7 / 2 ^ (low + k20) % 2 * 2 ^ k20 : Nat) : Int), .int .i64 ((rdF A low wd k7 (k20 + 1) k7 : Nat) : Int), .pointer (some ⟨gd, k7, none⟩)] ?_ ?_
            · refine latv (fun γ w h => ex_move _) ?_
              refine latv (fun γ w h => ex_move _) ?_
              refine latv (fun γ w h => ex_idxI (g := gd) (m := m) (c := m) (i := k7) rfl rfl hq) ?_
              refine latv (fun γ w h => ex_loadI (D := rdF A low wd k7 k20) (A26.keep h.out) hq rfl) ?_
              refine latv (fun γ w h => ex_loadsn (K := 4) 0 1 (m := [(A k7)]) flFr rfl rfl (A27.keep h.out) rfl rfl) ?_
              refine latv (fun γ w h => ex_move _) ?_
              refine latv (fun γ w h => ex_move _) ?_
              refine latv (fun γ w h => ex_iadd rfl rfl ((low + k20 : Nat) : Int) (by rw [wrapI64 (by omega) (by omega)]; omega)) ?_
              refine latc (.int .i64 ((A k7 / 2 ^ (low + k20) % 2 : Nat) : Int)) (fun γ w => ex_call (vs := [nv 4 [(A k7)], .int .i64 ((low + k20 : Nat) : Int)]) rfl Try.call81 rfl) (fun w h => sumbit_v (A k7) (low + k20) (HA k7 hk7) _) ?_
              refine latv (fun γ w h => ex_move _) ?_
              refine latv (fun γ w h => ex_shlI rfl rfl (by omega) ((A k7 / 2 ^ (low + k20) % 2 * 2 ^ k20 : Nat) : Int) (shl_bit (by omega) (Nat.mod_lt _ (by decide)))) ?_
              refine latv (fun γ w h => ex_bitsor rfl rfl _ (rd_or A low wd k7 k20 (by omega))) ?_
              refine latv (fun γ w h => ex_idxI (g := gd) (m := m) (c := m) (i := k7) rfl rfl hq) ?_
              refine GSteps.cons (late_store rfl (fun _ => rfl) (fun γ w h => ex_storeI (D := rdF A low wd k7 k20) (A26.keep h.out) hq rfl rfl) rfl) ?_
              exact GSteps.nil
            intro w29 w29_ hb29 hs29
            have A30 := A26.keep hb29.out
            have A31 := A27.keep hb29.out
            have HB32 := HB28.then hb29.out
            have A33 : SB 3 w29_ gd (ints (rdF A low wd k7 (k20 + 1)) m) := St.elem (i := k7) (n := 1) (S := fun i => [.i .i64 ((rdF A low wd k7 k20 i : Nat) : Int)]) (S' := fun i => [.i .i64 ((rdF A low wd k7 (k20 + 1) i : Nat) : Int)]) (by rw [Nat.one_mul]; exact hs29) (fun _ => rfl) rfl A30 hq rfl (fun j _ hj => by rw [rdF_other A low wd k7 k20 j hj])
            have A34 := hs29.other (Ne.symm (Nat.ne_of_lt (Nat.lt_of_lt_of_le A9.lt le14))) A31
            have HB35 := HB32.old hs29 (.inl rfl)
            refine bk_n ?_
            refine th_r ?_
            refine wp_region_lit ?_
            refine sv1 (.int .i64 ((k20 + 1 : Nat) : Int)) (ex_iadd rfl rfl ((k20 + 1 : Nat) : Int) (cnt_up (by omega))) ?_
            refine sv1 (.int .i64 ((k20 + 1 : Nat) : Int)) (ex_move _) ?_
            refine wpList_nil ?_
            refine th_r ?_
            exact hK20.out _ _ ⟨_, _, _, _, _, _, _, _, _, _, _, _, _, _, _, _, _, rfl, A33, A34, HB35⟩
          · rintro _ w36 ⟨i36_10, i36_21, i36_22, i36_23, i36_24, i36_25, i36_26, i36_27, i36_28, i36_29, i36_30, i36_31, i36_32, i36_33, i36_34, i36_35, i36_36, rfl, A36_0, A36_1, HB36⟩ K36
            refine wp_seq (region_0 [21] [.bool false] ?_ ?_)
            · refine stpx (fun _ _ => ex_ilss rfl rfl false (by rw [eq_comm, decide_eq_false_iff_not]; omega)) ?_
              exact GSteps.nil
            intro w37 hb37
            refine th_r ?_
            have A38 := A36_0.keep hb37.out
            have A39 := A36_1.keep hb37.out
            have HB40 := HB36.then hb37.out
            refine wp_seq ?_
            refine wp_cond_false rfl ?_
            refine wp_exit (th_e (th_e (bk_e ?_)))
            refine bk_n ?_
            refine th_r ?_
            refine wp_region_lit ?_
            refine sv1 (.int .i64 ((k7 + 1 : Nat) : Int)) (ex_iadd rfl rfl ((k7 + 1 : Nat) : Int) (cnt_up (by omega))) ?_
            refine sv1 (.int .i64 ((k7 + 1 : Nat) : Int)) (ex_move _) ?_
            refine wpList_nil ?_
            refine th_r ?_
            exact hK7.out _ _ ⟨_, _, _, _, _, _, _, _, _, _, _, _, _, _, _, _, _, _, _, _, _, _, _, _, _, _, rfl, (by rw [← rdF_next]; exact A38), HB40⟩
      · rintro _ w41 ⟨i41_8, i41_9, i41_10, i41_15, i41_16, i41_17, i41_18, i41_19, i41_20, i41_21, i41_22, i41_23, i41_24, i41_25, i41_26, i41_27, i41_28, i41_29, i41_30, i41_31, i41_32, i41_33, i41_34, i41_35, i41_36, i41_37, rfl, A41_0, HB41⟩ K41
        refine wp_seq (region_0 [15] [.bool false] ?_ ?_)
        · refine stpx (fun _ _ => ex_ilss rfl rfl false (by rw [eq_comm, decide_eq_false_iff_not]; omega)) ?_
          exact GSteps.nil
        intro w42 hb42
        refine th_r ?_
        have A43 := A41_0.keep hb42.out
        have HB44 := HB41.then hb42.out
        refine wp_seq ?_
        refine wp_cond_false rfl ?_
        refine wp_exit (th_e (th_e (bk_e ?_)))
        exact bodyPost_end (ret0 Try.results61) rfl ⟨rfl, HB44, by rw [← rdF_end]; exact A43⟩
end Go.Proofs.Ytkkmekdhejhapaa
